/- Parts of the proof. -/
import Derived.Laws.OwnMore
import Derived.Deep.Slices
import Derived.Deep.Fields
import Derived.ChangeSame
import Derived.Sort.Walk0
import Derived.Test.YtcanemamnmmbcaaGreatDoorQaa
namespace Go.Proofs.YtcanemamnmmbcaaGreatDoor
open Go.RowKit
set_option linter.unusedSimpArgs false
set_option linter.unusedVariables false
set_option linter.unusedSectionVars false
set_option maxRecDepth 100000
set_option maxHeartbeats 8000000
section
theorem wf_i64 {n:Int} (h1:-9223372036854775808≤n) (h2:n≤9223372036854775807):(Lit.int .i64 n).wf=true:=by
  simp [Lit.wf,IntKind.min,IntKind.max,IntKind.signed,IntKind.bits];omega
def opv (l:List (Nat×Value)):Operand→Option Value
  | .tmp k=>(l.find? fun y=>y.1 == k).map (·.2)
  | .const v=>some v
  | .global g=>some (.pointer (some ⟨g,0,none⟩))
  | .func f=>some (.func (.func f) #[] #[])
theorem Kn.op {N:Nat} {l:List (Nat×Value)} {a:Act} (h:Kn N l a) {x:Operand} {v:Value} (hx:opv l x=some v):a.eval x=v:=by
  cases x with
  | tmp k=>
    cases hf:l.find? (fun y=>y.1 == k) with
    | none=>simp [opv,hf] at hx
    | some y=>
      have he:y.1=k:=by simpa using List.find?_some hf
      simp [opv,hf] at hx
      subst hx
      exact h.eval (k:=k) (by have:=List.mem_of_find?_eq_some hf;rw [← he];exact this)
  | const v'=>simp [opv] at hx;subst hx;rfl
  | global g=>simp [opv] at hx;subst hx;rfl
  | func f=>simp [opv] at hx;subst hx;rfl
theorem Kn.ops {N:Nat} {l:List (Nat×Value)} {a:Act} (h:Kn N l a) {xs:List Operand} {vs:List Value} (hx:xs.map (opv l)=vs.map some):xs.toArray.map a.eval=vs.toArray:=by
  rw [List.map_toArray]
  congr 1
  induction xs generalizing vs with
  | nil=>cases vs with
    | nil=>rfl
    | cons v vs=>simp at hx
  | cons x xs ih=>cases vs with
    | nil=>simp at hx
    | cons v vs=>
      simp only [List.map_cons,List.cons.injEq] at hx ⊢
      exact ⟨h.op hx.1,ih hx.2⟩
theorem Kn.parts {N:Nat} {l:List (Nat×Value)} {a:Act} (h:Kn N l a) {xs:List (Nat×Operand)} {vs:List (Nat×Value)} (hx:xs.map (fun p=>(p.1,opv l p.2))=vs.map (fun p=>(p.1,some p.2))):xs.toArray.map (fun p=>(p.1,a.eval p.2))=vs.toArray:=by
  rw [List.map_toArray]
  congr 1
  induction xs generalizing vs with
  | nil=>cases vs with
    | nil=>rfl
    | cons v vs=>simp at hx
  | cons x xs ih=>cases vs with
    | nil=>simp at hx
    | cons v vs=>
      simp only [List.map_cons,List.cons.injEq,Prod.mk.injEq] at hx ⊢
      exact ⟨by rw [h.op hx.1.2,hx.1.1],ih hx.2⟩
def CallsR (P:Program) (f:FuncId) (args:Array Value) (w:World) (R:Value→World→Prop):Prop:=Calls P f args w fun e w'=>∃ v,e=.returned v∧R v w'
theorem CallsR.mono {P:Program} {f:FuncId} {args:Array Value} {w:World} {R R':Value→World→Prop} (h:CallsR P f args w R) (k:∀ v w',R v w'→R' v w'):CallsR P f args w R':=Calls.mono h (fun e w' ⟨v,e1,r⟩=>⟨v,e1,k v w' r⟩)
theorem CallsR.ret {P:Program} {f:FuncId} {args:Array Value} {w:World} {v:Value} {R:World→Prop} (h:Calls P f args w fun e w'=>e=.returned v∧R w'):CallsR P f args w fun v' w'=>v'=v∧R w':=Calls.mono h (fun e w' ⟨e1,r⟩=>⟨v,e1,rfl,r⟩)
section
variable {P:Program} {ops:Array Oper} {Q:Exit→Act→World→Prop} {md:Region.Mode} {S:World→Prop} {o:Oper} {rest:List Oper} {fuel:Nat} {listed:Array Bool} {a:Act} {w w':World} {N:Nat} {l:List (Nat×Value)} {K:Act→World→Prop}
theorem wg (h:Kn N l a) {g prev:Nat} {want b r:Bool} (hg:o.guard=some (g,want)) (hp:(ops[g]?).bind (·.dst)=some prev) (hm:l.find? (fun y=>y.1 == prev)=some (prev,.bool b)) (hb:(b == want)=r):Region.wanted o (yielded ops a.tmps)=r:=by
  rw [PL hg (h.yields hp (List.mem_of_find?_eq_some hm))];exact hb
theorem sv (h:Kn N l a) (hw:Region.wanted o (yielded ops a.tmps)=true) {d:Nat} (hd:o.dst=some d) (hdN:decide (d<N)=true) (hf:l.all (fun x=>!(x.1 == d))=true) {v:Value}
    (hr:∀ w,(execOp a.eval o).run P w=.ok (.value v) w) (k:∀ a',Kn N ((d,v)::l) a'→wpList P ops Q rest a' w):wpList P ops Q (o::rest) a w:=
  OC h hw hd (of_decide_eq_true hdN) (fr hf) v (hr w) k
theorem sw (h:Kn N l a) (hw:Region.wanted o (yielded ops a.tmps)=true) {d:Nat} (hd:o.dst=some d) (hdN:decide (d<N)=true) (hf:l.all (fun x=>!(x.1 == d))=true) {v:Value}
    (hr:(execOp a.eval o).run P w=.ok (.value v) w) (k:∀ a',Kn N ((d,v)::l) a'→wpList P ops Q rest a' w):wpList P ops Q (o::rest) a w:=
  OC h hw hd (of_decide_eq_true hdN) (fr hf) v hr k
theorem su (h:Kn N l a) (hw:Region.wanted o (yielded ops a.tmps)=false) {d:Nat} (hd:o.dst=some d) (hdN:decide (d<N)=true) (hf:l.all (fun x=>!(x.1 == d))=true)
    (k:∀ a',Kn N ((d,undef)::l) a'→wpList P ops Q rest a' w):wpList P ops Q (o::rest) a w:=Rs h hw hd (of_decide_eq_true hdN) (fr hf) k
theorem so (hw:Region.wanted o (yielded ops a.tmps)=true) (k:∀ K:Act→World→Prop,(∀ a w,wpList P ops Q rest a w→K a w)→o.wp P a w K Q):wpList P ops Q (o::rest) a w:=by
  refine wpList_step fun K hK=>?_
  rw [if_pos hw]
  exact k K hK
theorem tv (hS:S w) (h:Kn N l a) (i:Nat) (hi:ops[i]? = some o) {d:Nat} (hd:o.dst=some d) (hdN:decide (d<N)=true) (hf:l.all (fun x=>!(x.1 == d))=true)
    (hs:Region.noSelect ops=true) (hfr:Region.free md ops listed i=true) (hr:(Region.ready md ops listed).contains i=true) (hQ:∀ c a w v,Q (.panic c) (a.put o.dst v) w→Q (.panic c) a w) (hw:Region.wanted o (yielded ops a.tmps)=true) {v:Value} (hy:∀ w1,S w1→(execOp a.eval o).run P w1=.ok (.value v) w1)
    (k:∀ a',Kn N ((d,v)::l) a'→wpAnyH P md ops Q S fuel (listed.setIfInBounds i true) a' w):wpAnyH P md ops Q S (fuel+1) listed a w:=
  MV hS h i hi hd (of_decide_eq_true hdN) (fr hf) hs hfr hr hQ v (.inl ⟨hw,hy⟩) k
theorem tu (hS:S w) (h:Kn N l a) (i:Nat) (hi:ops[i]? = some o) {d:Nat} (hd:o.dst=some d) (hdN:decide (d<N)=true) (hf:l.all (fun x=>!(x.1 == d))=true)
    (hs:Region.noSelect ops=true) (hfr:Region.free md ops listed i=true) (hr:(Region.ready md ops listed).contains i=true) (hQ:∀ c a w v,Q (.panic c) (a.put o.dst v) w→Q (.panic c) a w) (hw:Region.wanted o (yielded ops a.tmps)=false)
    (k:∀ a',Kn N ((d,undef)::l) a'→wpAnyH P md ops Q S fuel (listed.setIfInBounds i true) a' w):wpAnyH P md ops Q S (fuel+1) listed a w:=
  MV hS h i hi hd (of_decide_eq_true hdN) (fr hf) hs hfr hr hQ undef (.inr ⟨hw,rfl⟩) k
theorem to_ (i:Nat) (hi:ops[i]? = some o) (hw:Region.wanted o (yielded ops a.tmps)=true) (hr:Region.ready md ops listed=[i])
    (k:∀ K:Act→World→Prop,(∀ a' w',S w'→(S w'→wpAnyH P md ops Q S fuel (listed.setIfInBounds i true) a' w')→K a' w')→Oper.wp P o a w K Q):wpAnyH P md ops Q S (fuel+1) listed a w:=
  wpAnyH_ready hr (by simp) (AllReadyH.cons hi (fun K hK=>by
    rw [if_pos hw]
    exact k K (Shut.out hK)) AllReadyH.nil)
theorem toc {i:Nat} {rs:List Nat} (hi:ops[i]? = some o) (hw:Region.wanted o (yielded ops a.tmps)=true) (k:∀ K:Act→World→Prop,(∀ a' w',S w'→(S w'→wpAnyH P md ops Q S fuel (listed.setIfInBounds i true) a' w')→K a' w')→Oper.wp P o a w K Q)
    (hs:AllReadyH P md ops Q S fuel listed a w rs):AllReadyH P md ops Q S fuel listed a w (i::rs):=
  AllReadyH.cons hi (fun K hK=>by rw [if_pos hw];exact k K (Shut.out hK)) hs
abbrev gv (C:Bool) (v:Value):Value:=if C=true then v else undef
theorem opg {l:List (Nat×Value)} {x:Operand} {C:Bool} {v:Value} (hx:opv l x=some (gv C v)) (hC:C=true):opv l x=some v:=by rw [hx,gv,if_pos hC]
theorem wT (h:Kn N l a) {g prev:Nat} {E:Bool} (hg:o.guard=some (g,true)) (hp:(ops[g]?).bind (·.dst)=some prev) (hm:l.find? (fun y=>y.1 == prev)=some (prev,.bool E)):Region.wanted o (yielded ops a.tmps)=E:=wg h hg hp hm (by cases E<;>rfl)
theorem wF (h:Kn N l a) {g prev:Nat} {E:Bool} (hg:o.guard=some (g,false)) (hp:(ops[g]?).bind (·.dst)=some prev) (hm:l.find? (fun y=>y.1 == prev)=some (prev,.bool E)):Region.wanted o (yielded ops a.tmps)=!E:=wg h hg hp hm (by cases E<;>rfl)
theorem sg (h:Kn N l a) {C:Bool} (hw:Region.wanted o (yielded ops a.tmps)=C) {d:Nat} (hd:o.dst=some d) (hdN:decide (d<N)=true) (hf:l.all (fun x=>!(x.1 == d))=true) {v:Value}
    (hr:C=true→(execOp a.eval o).run P w=.ok (.value v) w) (k:∀ a',Kn N ((d,gv C v)::l) a'→wpList P ops Q rest a' w):wpList P ops Q (o::rest) a w:=by
  cases C
  · exact su h hw hd hdN hf k
  · exact sw h hw hd hdN hf (hr rfl) k
theorem tgv (hS:S w) (h:Kn N l a) (i:Nat) (hi:ops[i]? = some o) {d:Nat} (hd:o.dst=some d) (hdN:decide (d<N)=true) (hf:l.all (fun x=>!(x.1 == d))=true)
    (hs:Region.noSelect ops=true) (hfr:Region.free md ops listed i=true) (hr:(Region.ready md ops listed).contains i=true) (hQ:∀ c a w v,Q (.panic c) (a.put o.dst v) w→Q (.panic c) a w) {C:Bool} (hw:Region.wanted o (yielded ops a.tmps)=C) {v:Value} (hy:∀ w1,S w1→C=true→(execOp a.eval o).run P w1=.ok (.value v) w1)
    (k:∀ a',Kn N ((d,gv C v)::l) a'→wpAnyH P md ops Q S fuel (listed.setIfInBounds i true) a' w):wpAnyH P md ops Q S (fuel+1) listed a w:=by
  cases C
  · exact tu hS h i hi hd hdN hf hs hfr hr hQ hw k
  · exact tv hS h i hi hd hdN hf hs hfr hr hQ hw (fun w1 h1=>hy w1 h1 rfl) k
theorem AA {a b:Bool} (h:(a&&b)=true):a=true∧b=true:=by cases a<;>cases b<;>simp_all
theorem Ix {a b:Bool} (h:(a&&b)=false):a=false∨b=false:=by cases a<;>cases b<;>simp_all
theorem orT {a b:Bool} (h:(a||b)=true):a=true∨b=true:=by cases a<;>cases b<;>simp_all
theorem orF {a b:Bool} (h:(a||b)=false):a=false∧b=false:=by cases a<;>cases b<;>simp_all
theorem Bb {a:Bool} (h:(!a)=true):a=false:=by cases a<;>simp_all
theorem Bq {a:Bool} (h:a=true):(!a)=false:=by subst h;rfl
theorem BC {a:Bool} (h:a=false):(!a)=true:=by subst h;rfl
theorem Rz {a b:Bool} (h:b=true):(a||b)=true:=by subst h;cases a<;>rfl
theorem Ey {a:Bool} (h:(!a)=false):a=true:=by cases a<;>simp_all
theorem Ap (h:Kn N l a) {x:Operand} (ho:o.op=.move x) {v:Value} (hx:opv l x=some v) (w:World):(execOp a.eval o).run P w=.ok (.value v) w:=by
  unfold execOp;rw [ho];simp only [h.op hx];rfl
theorem BJ (h:Kn N l a) {x:Operand} (ho:o.op=.assign x) {v:Value} (hx:opv l x=some v) (w:World):(execOp a.eval o).run P w=.ok (.value v) w:=by
  unfold execOp;rw [ho];simp only [h.op hx];rfl
theorem Cu (h:Kn N l a) {x:Operand} (ho:o.op=.nilCheck x) {p:Addr} (hx:opv l x=some (.pointer (some p))) (w:World):(execOp a.eval o).run P w=.ok (.value (.pointer (some p))) w:=by
  unfold execOp;rw [ho];simp only [h.op hx];rfl
theorem TA (h:Kn N l a) {x:Operand} (ho:o.op=.nilCheck x) {f:FuncId} {xs ys:Array Value} (hx:opv l x=some (.func (.func f) xs ys)) (w:World):(execOp a.eval o).run P w=.ok (.value (.func (.func f) xs ys)) w:=by
  unfold execOp;rw [ho];simp only [h.op hx];rfl
theorem Uc (h:Kn N l a) {x:Operand} {i:Nat} (ho:o.op=.extract x i) {vs:Array Value} {v:Value} (hx:opv l x=some (.tuple vs)) (hi:vs[i]? = some v) (w:World):(execOp a.eval o).run P w=.ok (.value v) w:=by
  unfold execOp;rw [ho];simp only [h.op hx,Instr.extract,hi];rfl
theorem rfa (h:Kn N l a) {x:Operand} {T:TypeId} {f:Nat} (ho:o.op=.fieldAddr T x f) {v u:Value} (hx:opv l x=some v) (hf:∀ w,(Instr.fieldAt T v f).run P w=.ok u w) (w:World):(execOp a.eval o).run P w=.ok (.value u) w:=by
  unfold execOp;rw [ho];simp only [h.op hx];exact EB (hf w)
theorem rld (h:Kn N l a) {x:Operand} {T:TypeId} (ho:o.op=.load T x) {v u:Value} (hx:opv l x=some v) {w:World} (hf:(Instr.loadAt T v).run P w=.ok u w):(execOp a.eval o).run P w=.ok (.value u) w:=by
  unfold execOp;rw [ho];simp only [h.op hx];exact EB hf
theorem BG (h:Kn N l a) {x y:Operand} {b:BinOp} {T ty:TypeId} (ho:o.op=.binOp b T x y ty) {v u z:Value} (hx:opv l x=some v) (hy:opv l y=some u) (hf:∀ w,(do eqGuard b T x y v u;binOp b T v u:Sem Value).run P w=.ok z w) (w:World):(execOp a.eval o).run P w=.ok (.value z) w:=by
  unfold execOp;rw [ho];simp only [h.op hx,h.op hy];exact EB (hf w)
theorem NL (h:Kn N l a) {x:Operand} {T:TypeId} (ho:o.op=.unOp .not T x) {b:Bool} (hx:opv l x=some (.bool b)) (w:World):(execOp a.eval o).run P w=.ok (.value (.bool !b)) w:=by
  unfold execOp;rw [ho];simp only [h.op hx];rfl
theorem Ed (h:Kn N l a) {c x y:Operand} (ho:o.op=.pick c x y) {b:Bool} {v:Value} (hc:opv l c=some (.bool b)) (hv:(if b=true then opv l x else opv l y)=some v) (w:World):(execOp a.eval o).run P w=.ok (.value v) w:=by
  refine Re ho (h.op hc) ?_
  cases b
  · exact h.op hv
  · exact h.op hv
theorem BT (h:Kn N l a) {c x y:Operand} (ho:o.op=.pick c x y) {E b:Bool} {v:Value} (hc:opv l c=some (.bool E)) (e:E=b) (hv:(if b=true then opv l x else opv l y)=some v) (w:World):(execOp a.eval o).run P w=.ok (.value v) w:=by
  subst e;exact Ed h ho hc hv w
theorem Dt (h:Kn N l a) {c x y:Operand} (ho:o.op=.pick c x y) {E F:Bool} {u:Value} (hc:opv l c=some (.bool E)) (hx:opv l x=some (.bool true)) (hy:opv l y=some u) (hF:E=false→u=.bool F) (w:World):(execOp a.eval o).run P w=.ok (.value (.bool (E||F))) w:=by
  refine Ed h ho hc ?_ w
  cases E
  · simp [hy,hF]
  · simp [hx]
theorem DJ (h:Kn N l a) {c x y:Operand} (ho:o.op=.pick c x y) {E F:Bool} {u:Value} (hc:opv l c=some (.bool E)) (hx:opv l x=some u) (hy:opv l y=some (.bool false)) (hF:E=true→u=.bool F) (w:World):(execOp a.eval o).run P w=.ok (.value (.bool (E&&F))) w:=by
  refine Ed h ho hc ?_ w
  cases E
  · simp [hy]
  · simp [hx,hF]
theorem CP (h:Kn N l a) {T:TypeId} {xs:List (Nat×Operand)} (ho:o.op=.build T xs.toArray) {vs:List (Nat×Value)} {v:Value} (hx:xs.map (fun p=>(p.1,opv l p.2))=vs.map (fun p=>(p.1,some p.2))) (hv:∀ w,(Instr.build T vs.toArray).run P w=.ok v w) (w:World):(execOp a.eval o).run P w=.ok (.value v) w:=by
  unfold execOp;rw [ho];simp only [h.parts hx];exact EB (hv w)
theorem Aw (h:Kn N l a) {x i:Operand} {T:TypeId} (ho:o.op=.indexAddr T x i) {v u z:Value} (hx:opv l x=some v) (hi:opv l i=some u) (hf:∀ w,(Instr.indexAt T v u).run P w=.ok z w) (w:World):(execOp a.eval o).run P w=.ok (.value z) w:=by
  unfold execOp;rw [ho];simp only [h.op hx,h.op hi];exact EB (hf w)
theorem Ds (h:Kn N l a) {x i:Operand} {T:TypeId} {ok:Bool} (ho:o.op=.lookup T x i ok) {v u z:Value} (hx:opv l x=some v) (hi:opv l i=some u) {w:World} (hf:(Instr.lookup T v u ok).run P w=.ok z w):(execOp a.eval o).run P w=.ok (.value z) w:=by
  unfold execOp;rw [ho];simp only [h.op hx,h.op hi];exact EB hf
theorem FN (h:Kn N l a) {fn:Fn} {xs ys:List Operand} (ho:o.op=.makeFunc fn xs.toArray ys.toArray) {vs us:List Value} (hx:xs.map (opv l)=vs.map some) (hy:ys.map (opv l)=us.map some) (w:World):(execOp a.eval o).run P w=.ok (.value (.func fn vs.toArray us.toArray)) w:=by
  unfold execOp;rw [ho];simp only [h.ops hx,h.ops hy];rfl
theorem Fe (h:Kn N l a) {b:Builtin} {xs:List Operand} {ts:Array TypeId} (ho:o.op=.call { callee:=.builtin b,args:=xs.toArray,argTypes:=ts }) {vs:List Value} (hx:xs.map (opv l)=vs.map some) {v:Value} {w w':World} (hf:∀ cs,(builtin b ts o.type cs vs.toArray).run P w=.ok (.value v) w'):(execOp a.eval o).run P w=.ok (.value v) w':=by
  unfold execOp;rw [ho]
  simp only [resolve,h.ops hx,invoke]
  exact hf _
theorem CR (h:Kn N l a) {x:Operand} {T E:TypeId} (ho:o.op=.call { callee:=.builtin .len,args:=#[x],argTypes:=#[T] }) {p:Option Addr} {n c:Nat} (hx:opv l x=some (.slice p n c)) (hu:P.underlying T=some (.slice E)) (w:World):(execOp a.eval o).run P w=.ok (.value (ν (n:Int))) w:=by
  refine Fe h (xs:=[x]) (vs:=[.slice p n c]) ho (by simp [hx]) fun cs=>?_
  simp [builtin,Builtin.len_,underlying,hu,Sem.run_bind]
  rfl
theorem Tx (h:Kn N l a) {x:Operand} {T:TypeId} (ho:o.op=.call { callee:=.builtin .len,args:=#[x],argTypes:=#[T] }) {s:ByteArray} (hx:opv l x=some (.string s)) (hu:P.underlying T=some .string) (w:World):(execOp a.eval o).run P w=.ok (.value (ν (s.size:Int))) w:=by
  refine Fe h (xs:=[x]) (vs:=[.string s]) ho (by simp [hx]) fun cs=>?_
  simp [builtin,Builtin.len_,underlying,hu,Sem.run_bind]
  rfl
theorem bI (b:BinOp) (T:TypeId) (x y:Operand) (k:IntKind) (i j:Int) {z:Value} (hz:(match b with | .eql=>some (Value.bool (i == j)) | .neq=>some (.bool (i != j)) | .lss=>some (.bool (decide (i<j))) | .leq=>some (.bool (decide (i≤j))) | .gtr=>some (.bool (decide (i>j))) | .geq=>some (.bool (decide (i≥j))) | .add=>some (.int k (k.wrap (i+j))) | .sub=>some (.int k (k.wrap (i-j))) | .mul=>some (.int k (k.wrap (i*j))) | _=>none)=some z) (w:World) :
    (do eqGuard b T x y (.int k i) (.int k j);binOp b T (.int k i) (.int k j):Sem Value).run P w=.ok z w:=by
  cases b<;>simp at hz<;>subst hz<;>simp [eqGuard,binOp,Op.intCmp,Op.intArith,Sem.run_bind]
theorem Dx (T:TypeId) (x y:Operand) {i j r:Int} (e:i+j=r) (h1:-9223372036854775808≤r) (h2:r≤9223372036854775807) (w:World):(do eqGuard .add T x y (ν i) (ν j);binOp .add T (ν i) (ν j):Sem Value).run P w=.ok (ν r) w:=
  bI .add T x y .i64 i j (by subst e;show some (Value.int .i64 (IntKind.i64.wrap (i+j)))=_;rw [IntWalk.i64_in _ ⟨h1,h2⟩]) w
theorem Ib (T:TypeId) (x y:Operand) {i j r:Int} (e:i-j=r) (h1:-9223372036854775808≤r) (h2:r≤9223372036854775807) (w:World):(do eqGuard .sub T x y (ν i) (ν j);binOp .sub T (ν i) (ν j):Sem Value).run P w=.ok (ν r) w:=
  bI .sub T x y .i64 i j (by subst e;show some (Value.int .i64 (IntKind.i64.wrap (i-j)))=_;rw [IntWalk.i64_in _ ⟨h1,h2⟩]) w
theorem cLt (T:TypeId) (x y:Operand) (k:IntKind) {i j:Int} {t:Bool} (ht:decide (i<j)=t) (w:World):(do eqGuard .lss T x y (.int k i) (.int k j);binOp .lss T (.int k i) (.int k j):Sem Value).run P w=.ok (.bool t) w:=
  bI .lss T x y k i j (by subst ht;rfl) w
theorem cGt (T:TypeId) (x y:Operand) (k:IntKind) {i j:Int} {t:Bool} (ht:decide (i>j)=t) (w:World):(do eqGuard .gtr T x y (.int k i) (.int k j);binOp .gtr T (.int k i) (.int k j):Sem Value).run P w=.ok (.bool t) w:=
  bI .gtr T x y k i j (by subst ht;rfl) w
theorem cLe (T:TypeId) (x y:Operand) (k:IntKind) {i j:Int} {t:Bool} (ht:decide (i≤j)=t) (w:World):(do eqGuard .leq T x y (.int k i) (.int k j);binOp .leq T (.int k i) (.int k j):Sem Value).run P w=.ok (.bool t) w:=
  bI .leq T x y k i j (by subst ht;rfl) w
theorem cGe (T:TypeId) (x y:Operand) (k:IntKind) {i j:Int} {t:Bool} (ht:decide (i≥j)=t) (w:World):(do eqGuard .geq T x y (.int k i) (.int k j);binOp .geq T (.int k i) (.int k j):Sem Value).run P w=.ok (.bool t) w:=
  bI .geq T x y k i j (by subst ht;rfl) w
theorem cEq (T:TypeId) (x y:Operand) (k:IntKind) {i j:Int} {t:Bool} (ht:decide (i=j)=t) (w:World):(do eqGuard .eql T x y (.int k i) (.int k j);binOp .eql T (.int k i) (.int k j):Sem Value).run P w=.ok (.bool t) w:=
  bI .eql T x y k i j (by subst ht;show some (Value.bool (i == j))=_;rw [show (i == j)=decide (i=j) from rfl]) w
theorem cNe (T:TypeId) (x y:Operand) (k:IntKind) {i j:Int} {t:Bool} (ht:decide (i≠j)=t) (w:World):(do eqGuard .neq T x y (.int k i) (.int k j);binOp .neq T (.int k i) (.int k j):Sem Value).run P w=.ok (.bool t) w:=
  bI .neq T x y k i j (by subst ht;show some (Value.bool (i != j))=_;rw [show (i != j)=decide (i≠j) by simp [bne];rfl]) w
theorem Ml (d:Nat) {T E:TypeId} (hu:P.underlying T=some (.pointer E)) (p:Option Addr) (w:World):(Op.equalIn (d+1) T (.pointer p) (.pointer none)).run P w=.ok p.isNone w:=by
  cases p<;>simp [Op.equalIn,underlying,hu,Sem.run_bind]
theorem IY (T:TypeId) {E:TypeId} (hu:P.underlying T=some (.pointer E)) (x y:Operand) (p:Option Addr) (w:World) :
    (do eqGuard .eql T x y (.pointer p) (.pointer none);binOp .eql T (.pointer p) (.pointer none):Sem Value).run P w=.ok (.bool p.isNone) w:=by
  have e:(Op.equal T (.pointer p) (.pointer none)).run P w=.ok p.isNone w:=Ml 9999 hu p w
  cases p<;>simp [eqGuard,binOp,Sem.run_bind,e]<;>rfl
theorem Iz (T:TypeId) {E:TypeId} (hu:P.underlying T=some (.pointer E)) (x y:Operand) (p:Option Addr) (w:World) :
    (do eqGuard .neq T x y (.pointer p) (.pointer none);binOp .neq T (.pointer p) (.pointer none):Sem Value).run P w=.ok (.bool !p.isNone) w:=by
  have e:(Op.equal T (.pointer p) (.pointer none)).run P w=.ok p.isNone w:=Ml 9999 hu p w
  cases p<;>simp [eqGuard,binOp,Sem.run_bind,e]<;>rfl
theorem PU (b:BinOp) (T:TypeId) (x y:Operand) (p q:ByteArray) {z:Bool} (hz:(match b with | .eql=>some (p.toList == q.toList) | .neq=>some (!(p.toList == q.toList)) | .lss=>some (Op.bytesLess p.toList q.toList) | .geq=>some (!Op.bytesLess p.toList q.toList) | .leq=>some (Op.bytesLess p.toList q.toList||p.toList == q.toList) | .gtr=>some (!(Op.bytesLess p.toList q.toList||p.toList == q.toList)) | _=>none)=some z) (w:World) :
    (do eqGuard b T x y (.string p) (.string q);binOp b T (.string p) (.string q):Sem Value).run P w=.ok (.bool z) w:=by
  cases b<;>simp only [Option.some.injEq,reduceCtorEq] at hz<;>subst hz<;>simp [eqGuard,binOp,Op.stringOp,Sem.run_bind]
theorem Mu {T:TypeId} {k:TypeDesc} (hu:P.underlying T=some k) (hk:k.isRow=false) (w:World):(isAgg T).run P w=.ok false w:=by
  unfold isAgg
  simp [underlying,hu,Sem.run_bind]
  cases k<;>simp_all
theorem ldB {T:TypeId} {k:TypeDesc} (hu:P.underlying T=some k) (hk:k.isRow=false) {g e off:Nat} {L:List Value} {v:Value} (h:Blk w g e L) (hv:L[off]? = some v):(Instr.loadAt T (.pointer (some ⟨g,off,none⟩))).run P w=.ok v w:=by
  obtain ⟨h1,h2⟩:=List.getElem?_eq_some_iff.1 hv
  have hc:=h.cell h1
  rw [h2] at hc
  simp [Instr.loadAt,Instr.sureAddr,loadVar,Sem.run_bind,Mu hu hk,hc]
theorem ldC {T:TypeId} {k:TypeDesc} (hu:P.underlying T=some k) (hk:k.isRow=false) {g off:Nat} {v:Value} (hc:w.cell? ⟨g,off,none⟩=some v):(Instr.loadAt T (.pointer (some ⟨g,off,none⟩))).run P w=.ok v w:=by
  simp [Instr.loadAt,Instr.sureAddr,loadVar,Sem.run_bind,Mu hu hk,hc]
theorem ldA {T:TypeId} {k:TypeDesc} (hu:P.underlying T=some k) (hk:k.isRow=true) {g e off n:Nat} {L cs:List Value} (hn:(P.info? T).map (·.size)=some n) (h:Blk w g e L) (hv:(L.drop off).take n=cs) (hl:cs.length=n):(Instr.loadAt T (.pointer (some ⟨g,off,none⟩))).run P w=.ok (.agg cs.toArray) w:=by
  refine run_loadAt_mid w g off T cs k (fun j v hj=>?_) hu hk (by rw [hl];exact hn)
  rw [← hv,List.getElem?_take] at hj
  split at hj
  · rw [List.getElem?_drop] at hj
    obtain ⟨h1,h2⟩:=List.getElem?_eq_some_iff.1 hj
    rw [h.cell h1,h2]
  · cases hj
end
end
section
theorem PN {P:Program} {w:World} {B:Nat} {t ty e:TypeId} {i:TypeInfo} {z:Value} {size bytes:Nat} (ht:P.underlying t=some (.slice e)) (hi:P.info? e=some i) (hz:i.zero=some z) (hsize:i.size=size) (hby:i.bytes=bytes) (hsz:0<size)
    {a1:Option Addr} {n c0:Nat} {xs:List Value} (hown:Own w B e size a1 n c0 xs) {a:Addr} {m c:Nat} {news:List Value} (hl:news.length=m*size) (hnews:∀ j u,news[j]? = some u→w.cell? (a.add j)=some u) (h1:∀ u∈news,u.oneCell'=true)
    (h63:n+m≤maxLen) (hbytes:(n+m)*bytes≤140737488355328) (hm:0<m) {b:Option Addr} {n' c':Nat} {w':World} (hr:(Builtin.append_ #[t,t] ty #[.slice a1 n c0,.slice (some a) m c]).run P w=.ok (.slice b n' c') w') :
    ∀ k,(Value.slice b n' c').ownBlock=some k→(Value.slice a1 n c0).ownBlock=some k∨w.heap.size≤k:=by
  subst hsize
  subst hby
  have hsmall:n+m≤9223372036854775807:=by simp only [maxLen] at h63;omega
  rcases hown.2 with ⟨hv,hn⟩ | ⟨g,cap,cur,hv,hbg,hg,hnc,hcm,hcs,htake⟩
  · cases hv
    have q:=run_append_nil (P:=P) w t ty e i z ht hi hz a m c news hl hnews ω ω (by have hb:=hbytes;simp only [Nat.zero_add] at hb;omega)
    rw [q] at hr
    cases hr
    intro k hk;cases hk;exact .inr (Nat.le_refl _)
  · cases hv
    by_cases hroom:n+m≤c0
    · have hfit:n*i.size+news.length≤cur.size:=by rw [hl,hcs,← Nat.add_mul];exact Nat.mul_le_mul_right _ hroom
      have q:=run_append_room (P:=P) w t ty e i ht hi g n c0 cur hg a m c news hl hnews h1 hroom hfit
      rw [q] at hr
      cases hr
      intro k hk;exact .inl hk
    · have holds:∀ j u,xs[j]? = some u→w.cell? ((⟨g,0,none⟩:Addr).add j)=some u:=World.ownsRow.cells hown (g:=g) rfl
      have q:=run_append_grow (P:=P) w t ty e i z ht hi hz ⟨g,0,none⟩ n c0 xs hown.1 holds a m c news hl hnews ω ω (growslice_fits ω hbytes)
      rw [q] at hr
      cases hr
      intro k hk;cases hk;exact .inr (Nat.le_refl _)
theorem Turns.of_row {w w':World} {r:Option Nat} (h:w.grownBy w' r):Turns (fun k=>r=some k) w w':=⟨h.os,h.tape,h.output,h.size,fun k hk hn=>h.block k hk (fun e=>hn e.symm)⟩
section
variable {P:Program} {Q:Exit→Act→World→Prop} {o:Oper} {a:Act} {w w':World} {N:Nat} {l:List (Nat×Value)} {K:Act→World→Prop} {cs:List Ch}
theorem Br (h:Kn N l a) {d:Nat} (hd:o.dst=some d) (hdN:decide (d<N)=true) (hf:l.all (fun x=>!(x.1 == d))=true) {v:Value} (hr:(execOp a.eval o).run P w=.ok (.value v) w')
    (k:∀ a',Kn N ((d,v)::l) a'→K a' w'):Oper.wp P o a w K Q:=SQ h hd (of_decide_eq_true hdN) (fr hf) v hr k
theorem Sv (h:Kn N l a) (hd:o.dst=none) {v:Value} (hr:(execOp a.eval o).run P w=.ok (.value v) w') (k:∀ a',Kn N l a'→K a' w'):Oper.wp P o a w K Q:=by
  unfold Oper.wp
  rw [hr,Oper.upon_value,hd]
  exact k _ h
theorem BB (h:Kn N l a) {d:Nat} (hd:o.dst=some d) (hdN:decide (d<N)=true) (hf:l.all (fun x=>!(x.1 == d))=true) {T:TypeId} (ho:o.op=.alloc T) {z:List Value}
    (hz:∀ w,(Instr.alloc T true (.tuple #[])).run P w=.ok (π w.heap.size) (w.alloc (.cells z.toArray T))) (hS:Sep w cs)
    (k:∀ a' g w',Kn N ((d,π g)::l) a'→Sep w' (Ah g T z::cs)→(∃ o,w'=w.alloc o)→g=w.heap.size→K a' w'):Oper.wp P o a w K Q:=by
  refine Br h hd hdN hf (by unfold execOp;rw [ho];exact EB (hz w)) fun a' h'=>k a' _ _ h' (hS.push (KY _ _) (GN rfl _ _) (fun k e=>by cases e;exact Nat.le_refl _)) ⟨_,rfl⟩ rfl
theorem Cv (h:Kn N l a) {d:Nat} (hd:o.dst=some d) (hdN:decide (d<N)=true) (hf:l.all (fun x=>!(x.1 == d))=true) {T:TypeId} {x:Operand} (ho:o.op=.box T x) {v:Value} (hx:opv l x=some v) {z:List Value}
    (hz:v.cells=z.toArray) (hS:Sep w cs)
    (k:∀ a' g w',Kn N ((d,π g)::l) a'→Sep w' (Ah g T z::cs)→(∃ o,w'=w.alloc o)→g=w.heap.size→K a' w'):Oper.wp P o a w K Q:=by
  refine Br (v:=π w.heap.size) (w':=w.alloc (.cells z.toArray T)) h hd hdN hf (by unfold execOp;rw [ho];simp only [h.op hx];rw [← hz];exact EB rfl) fun a' h'=>k a' _ _ h' (hS.push (KY _ _) (GN rfl _ _) (fun k e=>by cases e;exact Nat.le_refl _)) ⟨_,rfl⟩ rfl
theorem CY (h:Kn N l a) {d:Nat} (hd:o.dst=some d) (hdN:decide (d<N)=true) (hf:l.all (fun x=>!(x.1 == d))=true) {T E:TypeId} {n:Nat} {xs:List (Nat×Operand)} (ho:o.op=.buildSlice T n xs.toArray) {vs:List (Nat×Value)} (hx:xs.map (fun p=>(p.1,opv l p.2))=vs.map (fun p=>(p.1,some p.2))) {z:List Value}
    (hz:∀ w,(Instr.buildSlice T n vs.toArray).run P w=.ok (.slice (some ⟨w.heap.size,0,none⟩) n n) (w.alloc (.cells z.toArray E))) (hS:Sep w cs)
    (k:∀ a' g w',Kn N ((d,.slice (some ⟨g,0,none⟩) n n)::l) a'→Sep w' (Ah g E z::cs)→(∃ o,w'=w.alloc o)→g=w.heap.size→K a' w'):Oper.wp P o a w K Q:=by
  refine Br h hd hdN hf (by unfold execOp;rw [ho];simp only [h.parts hx];exact EB (hz w)) fun a' h'=>k a' _ _ h' (hS.push (KY _ _) (GN rfl _ _) (fun k e=>by cases e;exact Nat.le_refl _)) ⟨_,rfl⟩ rfl
theorem GD {T:TypeId} {p u:Value} {vs:List Value} (hu:u.cells=vs.toArray) (w:World):(Instr.storeAt T p u).run P w=(Instr.storeAt T p (.agg vs.toArray)).run P w:=by
  have e:Value.cells u=Value.cells (.agg vs.toArray):=hu
  simp only [Instr.storeAt,storeVar]
  rw [e]
theorem CQ (h:Kn N l a) (hd:o.dst=none) {T:TypeId} {x y:Operand} (ho:o.op=.store T x y) (hS:Sep w cs) (i:Nat) {g off:Nat} {e:TypeId} {L:List Value} (hi:cs[i]? = some (Ah g e L)) (hx:opv l x=some (.pointer (some ⟨g,off,none⟩))) {u:Value} (hy:opv l y=some u) (vs:List Value) (hu:u.cells=vs.toArray)
    (hn:(P.info? T).map (·.size)=some vs.length) (h1:vs.all (·.oneCell')=true) (hL:off+vs.length≤L.length) {L':List Value} (hL':splice L off vs=L') {cs':List Ch} (hcs:cs.set i (Ah g e L')=cs')
    (k:∀ a' w',Kn N l a'→Sep w' cs'→Turns (fun k=>k=g) w w'→K a' w'):Oper.wp P o a w K Q:=by
  have hb:Blk w g e L:=hS.get i hi
  obtain ⟨h2,h3⟩:=Blk.setCells vs off w L hb hL
  have hr:=run_storeAt_mid (P:=P) w g off T vs.toArray (by simpa using hb.there off vs.length hL) (by simpa using hn) (by rw [List.all_toArray];exact h1)
  refine Hr (w':=w.setCells g off vs) h hd ?_ fun a' h'=>k a' _ h' ?_ (Turns.of_grown h3 rfl)
  · unfold execOp;rw [ho];simp only [h.op hx,h.op hy]
    rw [Sem.run_bind,GD hu,hr]
    rfl
  · rw [hL'] at h2
    rw [← hcs]
    exact hS.upd i hi (Turns.of_grown h3 rfl) (fun k _ e=>e.symm ▸ rfl) h2 (fun k e=>.inl e)
theorem CS (h:Kn N l a) {d:Nat} (hd:o.dst=some d) (hdN:decide (d<N)=true) (hf:l.all (fun x=>!(x.1 == d))=true) {f:Operand} {xs:List Operand} {ts:Array TypeId} (ho:o.op=.call { callee:=.value f,args:=xs.toArray,argTypes:=ts })
    {fn:FuncId} (hcf:∀ args w,(callFunc fn args).run P w=.ok (.enter fn args) w) {first cap:Array Value} (hfv:opv l f=some (.func (.func fn) first cap)) {vs:List Value} (hx:xs.map (opv l)=vs.map some) {args:Array Value} (ha:first++vs.toArray++cap=args)
    {R:Value→World→Prop} (HC:CallsR P fn args w R) (k:∀ a' v w',R v w'→Kn N ((d,v)::l) a'→K a' w'):Oper.wp P o a w K Q:=by
  have hrun:(execOp a.eval o).run P w=.ok (.enter fn args) w:=by
    unfold execOp;rw [ho]
    simp only [resolve,h.ops hx,h.op hfv,Deferred.ofValue,invoke,Sem.run_bind,Sem.run_pure,Result.andThen_ok,ha,hcf]
  unfold Oper.wp
  rw [hrun,Oper.upon_enter]
  refine Calls.mono HC ?_
  rintro e w' ⟨v,rfl,hv⟩
  simp only
  rw [hd]
  exact k _ v w' hv (h.put (of_decide_eq_true hdN) (fr hf) v)
theorem Sep.ownNil {w:World} {cs:List Ch} (h:Sep w cs) (B:Nat) (e:TypeId) (sz:Nat):Sep w (Ak B e sz none 0 0 []::cs):=
  h.push (Below.refl _ _) (Own.nil _ _ _ _) (fun k e=>by cases e)
theorem Sh (h:Kn N l a) {d:Nat} (hd:o.dst=some d) (hdN:decide (d<N)=true) (hf:l.all (fun x=>!(x.1 == d))=true) {s x:Operand} {t e:TypeId} {sz bytes:Nat}
    (ho:o.op=.call { callee:=.builtin .append,args:=#[s,x],argTypes:=#[t,t] }) (E:ElemT P t e sz bytes) (hS:Sep w cs) (i:Nat) {B:Nat}
    {a1:Option Addr} {ad:Addr} {n c m c2:Nat} {xs ds:List Value} (hi:cs[i]? = some (Ak B e sz a1 n c xs)) (hs:opv l s=some (.slice a1 n c)) (hx:opv l x=some (.slice (some ad) m c2))
    (hrow:Row w sz (some ad) m c2 ds) (hm:0<m) (h1:ds.all (·.oneCell')=true) (hbytes:(n+m)*bytes≤140737488355328) (h63:n+m≤9223372036854775807) {n':Nat} (hn':n+m=n')
    (k:∀ a' b' c' w',Kn N ((d,.slice b' n' c')::l) a'→Sep w' (cs.set i (Ak 0 e sz b' n' c' (xs++ds)))→w.heap.size≤w'.heap.size→K a' w'):Oper.wp P o a w K Q:=by
  subst hn'
  have hown:Own w 0 e sz a1 n c xs:=Own.low (hS.get i hi:Own w B e sz a1 n c xs) (Nat.zero_le _)
  obtain ⟨under,⟨ti,z,hi',hz,hsize,hby,hzs⟩,hsz⟩:=E
  obtain ⟨g1,g2,g3,g4,g5⟩:=hrow
  have hnews:∀ j u,ds[j]? = some u→w.cell? (ad.add j)=some u:=by
    intro j u hu
    obtain ⟨b,off,e1,_,hc⟩:=g5 hm
    cases e1
    have:=hc j u hu
    unfold Addr.add
    split
    · subst j;simpa using this
    · exact this
  have h1':∀ u∈ds,u.oneCell'=true:=List.all_eq_true.1 h1
  obtain ⟨v',w',hr,h2,h3,h4⟩:=run_append_own (P:=P) w 0 t o.type e ti z sz bytes under hi' hz hsize hby hzs hsz (.slice a1 n c) n xs hown ad m c2 ds g1 hnews h1' (by unfold maxLen;omega) hbytes (Nat.zero_le _)
  obtain ⟨b',c',rfl,h5⟩:=Fb h2
  have hw:=PN (P:=P) under hi' hz hsize hby hsz hown g1 hnews h1' (by unfold maxLen;omega) hbytes hm hr
  refine Br (v:=.slice b' (n+m) c') (w':=w') h hd hdN hf ?_ fun a' h'=>k a' b' c' w' h' (hS.upd i hi (Turns.of_row h3) (fun k _ e=>e) (c':=Ak 0 e sz b' (n+m) c' (xs++ds)) h5 hw) h3.size
  unfold execOp
  simp only [ho,resolve,invoke,builtin,Sem.run_bind,Sem.run_pure,Result.andThen_ok,List.map_toArray,List.map_cons,List.map_nil,h.op hs,h.op hx,hr]
end
theorem Hy {P:Program} {Q:Exit→Act→World→Prop} {a:Act} {w:World} {c:Code} {α:Type} (I:α→Act→World→Prop) (μ:α→Nat) (x₀:α) (h₀:I x₀ a w)
    (round:∀ x a w,I x a w→∀ K:Act→World→Prop,(∀ y a' w',I y a' w'→μ y<μ x→K a' w')→c.wp P (Exit.then K Q) a w):(Code.loop c).wp P Q a w:=by
  intro b k cs
  have key:∀ n x a w,μ x=n→I x a w→∃ e a' w',Q e a' w'∧Arrives P (lone (b.at a (.code c::.inLoop c::k)) cs w) b k cs e a' w':=by
    intro n
    induction n using Nat.strongRecOn with
    | _ n ih=>
      intro x a w hn hI
      obtain ⟨e,a₁,w₁,hq,harr⟩:=round x a w hI (fun a' w'=>∃ y,I y a' w'∧μ y<μ x) (fun y a' w' h1 h2=>⟨y,h1,h2⟩) b (.inLoop c::k) cs
      cases e with
      | normal=>
        obtain ⟨y,hI₁,hlt⟩:=hq
        obtain ⟨e₂,a₂,w₂,hq₂,harr₂⟩:=ih (μ y) (hn ▸ hlt) y a₁ w₁ rfl hI₁
        exact ⟨e₂,a₂,w₂,hq₂,.of_steps (Steps.trans harr (.one step_inLoop)) harr₂⟩
      | exit id=>exact ⟨_,a₁,w₁,hq,.pass (x:=.inLoop c) rfl (fun _ _=>.inl (by simp)) harr⟩
      | goto l=>exact ⟨_,a₁,w₁,hq,.pass (x:=.inLoop c) rfl (fun _ _=>.inl (by simp)) harr⟩
      | ret=>exact ⟨_,a₁,w₁,hq,.pass (x:=.inLoop c) rfl (fun _ _=>.inl (by simp)) harr⟩
      | panic ch=>exact ⟨_,a₁,w₁,hq,.pass (x:=.inLoop c) rfl (fun _ _=>.inl (by simp)) harr⟩
      | outgrown=>exact ⟨_,a₁,w₁,hq,.pass (x:=.inLoop c) rfl (fun _ _=>.inl (by simp)) harr⟩
  obtain ⟨e,a',w',hq,harr⟩:=key _ x₀ a w rfl h₀
  exact ⟨e,a',w',hq,.of_steps (.one step_loop) harr⟩
section
variable {P:Program} {Q:Exit→Act→World→Prop} {a:Act} {w:World} {c:Code} {α β γ δ ε ζ:Type}
theorem DC (I:α→Act→World→Prop) (μ:α→Nat) (x:α) (h₀:I x a w)
    (round:∀ x a w,I x a w→∀ K:Act→World→Prop,(∀ y a' w',I y a' w'→μ y<μ x→K a' w')→c.wp P (Exit.then K Q) a w):(Code.loop c).wp P Q a w:=Hy I μ x h₀ round
theorem Hj (I:α→β→Act→World→Prop) (μ:α→β→Nat) (x:α) (y:β) (h₀:I x y a w)
    (round:∀ x y a w,I x y a w→∀ K:Act→World→Prop,(∀ x' y' a' w',I x' y' a' w'→μ x' y'<μ x y→K a' w')→c.wp P (Exit.then K Q) a w):(Code.loop c).wp P Q a w:=
  Hy (α:=α×β) (fun p=>I p.1 p.2) (fun p=>μ p.1 p.2) (x,y) h₀ (fun p a w hI K hK=>round p.1 p.2 a w hI K (fun x' y'=>hK (x',y')))
theorem Ee (I:α→β→γ→Act→World→Prop) (μ:α→β→γ→Nat) (x:α) (y:β) (z:γ) (h₀:I x y z a w)
    (round:∀ x y z a w,I x y z a w→∀ K:Act→World→Prop,(∀ x' y' z' a' w',I x' y' z' a' w'→μ x' y' z'<μ x y z→K a' w')→c.wp P (Exit.then K Q) a w):(Code.loop c).wp P Q a w:=
  Hy (α:=α×β×γ) (fun p=>I p.1 p.2.1 p.2.2) (fun p=>μ p.1 p.2.1 p.2.2) (x,y,z) h₀ (fun p a w hI K hK=>round p.1 p.2.1 p.2.2 a w hI K (fun x' y' z'=>hK (x',y',z')))
theorem Rr (I:α→β→γ→δ→ε→Act→World→Prop) (μ:α→β→γ→δ→ε→Nat) (x:α) (y:β) (z:γ) (u:δ) (v:ε) (h₀:I x y z u v a w)
    (round:∀ x y z u v a w,I x y z u v a w→∀ K:Act→World→Prop,(∀ x' y' z' u' v' a' w',I x' y' z' u' v' a' w'→μ x' y' z' u' v'<μ x y z u v→K a' w')→c.wp P (Exit.then K Q) a w):(Code.loop c).wp P Q a w:=
  Hy (α:=α×β×γ×δ×ε) (fun p=>I p.1 p.2.1 p.2.2.1 p.2.2.2.1 p.2.2.2.2) (fun p=>μ p.1 p.2.1 p.2.2.1 p.2.2.2.1 p.2.2.2.2) (x,y,z,u,v) h₀ (fun p a w hI K hK=>round p.1 p.2.1 p.2.2.1 p.2.2.2.1 p.2.2.2.2 a w hI K (fun x' y' z' u' v'=>hK (x',y',z',u',v')))
theorem KV {N:Nat} {l:List (Nat×Value)} {cd:Operand} {x y:Code} (h:Kn N l a) {t b:Bool} (hx:opv l cd=some (.bool t)) (ht:t=b) (k:(if b=true then x else y).wp P Q a w):(Code.cond cd x y).wp P Q a w:=wp_cond (h.op hx) (by rw [ht];exact k)
theorem NI {fn:Func} (h:fn.results=#[]) {tmps:Array Value} (w:World):(results fn tmps).run P w=.ok (.tuple #[]) w:=results_none h tmps P w
theorem Cf {fn:Func} {N:Nat} {l:List (Nat×Value)} (hK:Kn N l a) {c:Nat} (h:fn.results=#[.tmp c]) {v:Value} (hv:opv l (.tmp c)=some v) (w:World):(results fn a.tmps).run P w=.ok v w:=by
  have:=hK.op hv
  simp only [Act.eval] at this
  rw [results_tmp h,this]
theorem FS {fn:Func} {N:Nat} {l:List (Nat×Value)} (hK:Kn N l a) {c d:Nat} (h:fn.results=#[.tmp c,.tmp d]) {v u:Value} (hv:opv l (.tmp c)=some v) (hu:opv l (.tmp d)=some u) (w:World):(results fn a.tmps).run P w=.ok (.tuple #[v,u]) w:=by
  have e1:=hK.op hv
  have e2:=hK.op hu
  simp only [Act.eval,Array.getD_eq_getD_getElem?] at e1 e2
  simp [results,h,e1,e2]
theorem Hg {fn:Func} {N:Nat} {l:List (Nat×Value)} (hK:Kn N l a) {c d e:Nat} (h:fn.results=#[.tmp c,.tmp d,.tmp e]) {v u z:Value} (hv:opv l (.tmp c)=some v) (hu:opv l (.tmp d)=some u) (hz:opv l (.tmp e)=some z) (w:World):(results fn a.tmps).run P w=.ok (.tuple #[v,u,z]) w:=by
  have e1:=hK.op hv
  have e2:=hK.op hu
  have e3:=hK.op hz
  simp only [Act.eval,Array.getD_eq_getD_getElem?] at e1 e2 e3
  simp [results,h,e1,e2,e3]
theorem Bn {fn:Func} {R:Value→World→Prop} {v:Value} (hr:∀ w,(results fn a.tmps).run P w=.ok v w) (hd:a.defers=[]) (k:R v w):bodyPost P fn (fun e w'=>∃ v,e=.returned v∧R v w') .ret a w:=bodyPost_ret (hr w) hd ⟨v,rfl,k⟩
theorem Nj {fn:Func} {R:Value→World→Prop} {v:Value} (hr:∀ w,(results fn a.tmps).run P w=.ok v w) (hd:a.defers=[]) (k:R v w):bodyPost P fn (fun e w'=>∃ v,e=.returned v∧R v w') .normal a w:=bodyPost_end (hr w) hd ⟨v,rfl,k⟩
theorem AB {f:FuncId} {fn:Func} {c:Code} {args:Array Value} {R:Value→World→Prop} (hf:P.funcs[f]? = some fn) (hb:fn.body=some c) {N:Nat} (hn:fn.ntmps=N) (hs:args.size≤N) (l:List (Nat×Value)) (hl:l.map (fun x=>args[x.1]?)=l.map (fun x=>some x.2))
    (k:∀ a,Kn N l a→c.wp P (bodyPost P fn (fun e w'=>∃ v,e=.returned v∧R v w')) a w):CallsR P f args w R:=by
  refine calls_of_wp hf hb (k _ ⟨by simp [hn];omega,fun x hx=>?_,rfl⟩)
  have e:args[x.1]? = some x.2:=by
    obtain ⟨i,hi,e⟩:=List.getElem_of_mem hx
    have q:(l.map (fun x=>args[x.1]?))[i]? = (l.map (fun x=>some x.2))[i]?:=by rw [hl]
    rw [List.getElem?_map,List.getElem?_map,List.getElem?_eq_getElem hi,e] at q
    simpa using q
  have hlt:x.1<args.size:=(Array.getElem?_eq_some_iff.1 e).1
  show (args++Array.replicate (fn.ntmps-args.size) undef)[x.1]? = some x.2
  rw [Array.getElem?_append_left hlt];exact e
end
end
section
theorem Ks {α:Type} {enc:α→List Value} {sz:Nat} (h:∀ x,(enc x).length=sz) {L:List α} {j k o:Nat} (z:α) (hj:j<L.length) (hk:k<sz) (ho:j*sz+k=o):(L.flatMap enc)[o]? = (enc (L.getD j z))[k]?:=by
  subst ho
  rw [Mo enc sz h L j k hj hk]
  simp [hj]
theorem SK {α:Type} {enc:α→List Value} {sz:Nat} (h:∀ x,(enc x).length=sz) {L:List α} {j o:Nat} (z:α) (hj:j<L.length) (ho:j*sz=o):((L.flatMap enc).drop o).take sz=enc (L.getD j z):=by
  subst ho
  refine List.ext_getElem? fun i=>?_
  rw [List.getElem?_take]
  split
  · rename_i hi
    rw [List.getElem?_drop]
    exact Ks h z hj hi rfl
  · rename_i hi
    rw [List.getElem?_eq_none (by rw [h];omega)]
theorem SL {α:Type} {enc:α→List Value} {sz:Nat} (h:∀ x,(enc x).length=sz) {L:List α} {j o:Nat} {y:α} (hj:j<L.length) (ho:j*sz=o):splice (L.flatMap enc) o (enc y)=(L.set j y).flatMap enc:=by
  subst ho;exact (Mq enc sz h L j y hj).symm
theorem Nt {α:Type} {enc:α→List Value} {sz:Nat} (h:∀ x,(enc x).length=sz) (L:List α):(L.flatMap enc).length=L.length*sz:=Mp enc sz h L
theorem Om {w:World} {B:Nat} {e:TypeId} {sz:Nat} {a:Option Addr} {n c:Nat} {cs:List Value} (h:Own w B e sz a n c cs):n≤c:=by
  obtain ⟨h0,h⟩:=h
  rcases h with ⟨hv,h0⟩ | ⟨g',cap,cur,hv,hg,hh,h1,h2,h3,h4⟩
  · omega
  · cases hv;exact h1
theorem AY {w:World} {B:Nat} {e:TypeId} {sz:Nat} {a:Option Addr} {n c:Nat} {cs:List Value} (h:Own w B e sz a n c cs):∃ q,0<n→a=some ⟨q,0,none⟩:=by
  rcases Nat.eq_zero_or_pos n with hn | hn
  · exact ⟨0,fun q=>ω⟩
  · obtain ⟨q,hq⟩:=Pt h hn
    exact ⟨q,fun _=>hq⟩
section
variable {P:Program}
theorem ixO {T E:TypeId} (hu:P.underlying T=some (.slice E)) {sz:Nat} (hsz:(P.info? E).map (·.size)=some sz) {a:Option Addr} {b off n c j:Nat} (ha:a=some ⟨b,off,none⟩) {k:IntKind} {i:Int} (hi:i=(j:Int)) (hj:j<n) {o:Nat} (ho:off+j*sz=o) (w:World):(Instr.indexAt T (.slice a n c) (.int k i)).run P w=.ok (.pointer (some ⟨b,o,none⟩)) w:=by
  subst hi;subst ho;subst ha
  have d0:(j:Int)<(n:Int):=ω
  have d1:0≤(j:Int):=ω
  cases hq:P.info? E with
  | none=>simp [hq] at hsz
  | some q=>
    have hs:q.size=sz:=by simpa [hq] using hsz
    simp [Instr.indexAt,asIntOf,underlying,hu,Sem.run_bind,sizeOf,typeInfo,hq,hs,hj]
    unfold Addr.add
    split
    · simp_all
    · simp
theorem Mx {α:Type} {enc:α→List Value} {sz:Nat} (henc:∀ x,(enc x).length=sz) {T:TypeId} {k:TypeDesc} (hu:P.underlying T=some k) (hk:k.isRow=true) (hn:(P.info? T).map (·.size)=some sz) {w:World} {B:Nat} {e:TypeId} {a:Option Addr} {q c j o:Nat} {L:List α} (h:Own w B e sz a L.length c (L.flatMap enc)) (ha:a=some ⟨q,0,none⟩) (z:α) (hj:j<L.length) (ho:j*sz=o):(Instr.loadAt T (.pointer (some ⟨q,o,none⟩))).run P w=.ok (.agg (enc (L.getD j z)).toArray) w:=by
  subst ha
  obtain ⟨L',hb,_,_,ht,hnc,_⟩:=Own.blk h
  refine ldA hu hk hn hb ?_ (henc _)
  rw [← SK henc z hj ho,← ht]
  have hle:o+sz≤L.length*sz:=by rw [← ho,← Nat.succ_mul];exact Nat.mul_le_mul_right _ hj
  refine List.ext_getElem? fun i=>?_
  rw [List.getElem?_take,List.getElem?_take]
  split
  · rw [List.getElem?_drop,List.getElem?_drop,List.getElem?_take,if_pos ω]
  · rfl
theorem BO {α:Type} {enc:α→List Value} {sz:Nat} (henc:∀ x,(enc x).length=sz) {T:TypeId} {k:TypeDesc} (hu:P.underlying T=some k) (hk:k.isRow=false) {w:World} {B:Nat} {e:TypeId} {a:Option Addr} {q c j f o:Nat} {L:List α} (h:Own w B e sz a L.length c (L.flatMap enc)) (ha:a=some ⟨q,0,none⟩) (z:α) (hj:j<L.length) (hf:f<sz) (ho:j*sz+f=o) {v:Value} (hv:(enc (L.getD j z))[f]? = some v):(Instr.loadAt T (.pointer (some ⟨q,o,none⟩))).run P w=.ok v w:=by
  subst ha
  obtain ⟨L',hb,_,_,ht,hnc,_⟩:=Own.blk h
  refine ldB hu hk hb ?_
  have:=Ks henc z hj hf ho
  rw [hv,← ht,List.getElem?_take] at this
  split at this
  · exact this
  · cases this
end
section
variable {P:Program} {Q:Exit→Act→World→Prop} {o:Oper} {a:Act} {w w':World} {N:Nat} {l:List (Nat×Value)} {K:Act→World→Prop} {cs:List Ch}
theorem EI {α:Type} {enc:α→List Value} {sz:Nat} (henc:∀ x,(enc x).length=sz) (h:Kn N l a) {d:Nat} (hd:o.dst=some d) (hdN:decide (d<N)=true) (hf:l.all (fun x=>!(x.1 == d))=true) {s x:Operand} {t e:TypeId} {by_:Nat}
    (ho:o.op=.call { callee:=.builtin .append,args:=#[s,x],argTypes:=#[t,t] }) (E:ElemT P t e sz by_) (hS:Sep w cs) (i:Nat) {B:Nat}
    {a1:Option Addr} {c:Nat} {L:List α} (hi:cs[i]? = some (Ak B e sz a1 L.length c (L.flatMap enc))) (hs:opv l s=some (.slice a1 L.length c)) (j:Nat) {g:Nat} {e':TypeId} {y:α} (hj:cs[j]? = some (Ah g e' (enc y))) (hx:opv l x=some (.slice (some ⟨g,0,none⟩) 1 1))
    (h1:(enc y).all (·.oneCell')=true) (hb:by_≤1000) (hn:L.length<1000000000) {L':List α} (hL:L++[y]=L')
    (k:∀ a' b' c' w',Kn N ((d,.slice b' L'.length c')::l) a'→Sep w' (cs.set i (Ak 0 e sz b' L'.length c' (L'.flatMap enc)))→K a' w'):Oper.wp P o a w K Q:=by
  refine Sh h hd hdN hf ho E hS i hi hs hx (ds:=enc y) (KE (hS.get j hj:Blk _ _ _ _) sz 1 (by rw [henc,Nat.one_mul]) (by decide)) (by decide) h1 (Nat.le_trans (Nat.mul_le_mul_left _ hb) ω) ω (n':=L'.length) (by rw [← hL];simp) fun a' b' c' w' h' s' _=>k a' b' c' w' h' ?_
  rw [show L.flatMap enc++enc y=L'.flatMap enc by rw [← hL];simp] at s'
  exact s'
end
section
variable {P:Program} {Q:Exit→Act→World→Prop} {o:Oper} {a:Act} {w w':World} {N:Nat} {l:List (Nat×Value)} {K:Act→World→Prop} {cs:List Ch}
theorem Ub {fn:Func} (hK:Kn N l a) {c:Nat} {T:TypeId} (h:fn.results=#[.cell c T]) {g:Nat} {e:TypeId} {L:List Value} {k:TypeDesc} (hc:opv l (.tmp c)=some (π g)) (hb:Blk w g e L) (hu:P.underlying T=some k) (hk:k.isRow=true) (hn:(P.info? T).map (·.size)=some L.length):(results fn a.tmps).run P w=.ok (.agg L.toArray) w:=
  Lb h (hK.op hc) hb hu hk hn
theorem Tw {fn:Func} (hK:Kn N l a) {c u:Nat} {T:TypeId} (h:fn.results=#[.cell c T,.tmp u]) {g:Nat} {e:TypeId} {L:List Value} {k:TypeDesc} (hc:opv l (.tmp c)=some (π g)) {v:Value} (hv:opv l (.tmp u)=some v) (hb:Blk w g e L) (hu:P.underlying T=some k) (hk:k.isRow=true) (hn:(P.info? T).map (·.size)=some L.length):(results fn a.tmps).run P w=.ok (.tuple #[.agg L.toArray,v]) w:=by
  have e:=hK.op hv
  have q:=Lc (P:=P) (w:=w) h (hK.op hc) hb hu hk hn
  simp only [Act.eval] at e
  rw [q,e]
theorem Sr {fn:Func} {R:Value→World→Prop} {v:Value} (hr:(results fn a.tmps).run P w=.ok v w) (hd:a.defers=[]) (k:R v w):bodyPost P fn (fun e w'=>∃ v,e=.returned v∧R v w') .ret a w:=bodyPost_ret hr hd ⟨v,rfl,k⟩
end
end
section
open Go.WideShapes Go.ChangeShapes Go.Deep
def ExtC (w:World) (b off sz n:Nat) (f:Nat→List Value):Prop:=b<w.heap.size∧∀ i,i<n→∀ (j:Nat) v,(f i)[j]? = some v→w.cell? ⟨b,off+i*sz+j,none⟩=some v
def ExtA (w:World) (a:Option Addr) (n c sz:Nat) (f:Nat→List Value):Prop:=
  n≤c∧c≤maxLen∧(0<n→∃ b off,a=some ⟨b,off,none⟩∧ExtC w b off sz n f)
theorem ExtA.at {w:World} {a:Option Addr} {n c sz:Nat} {f:Nat→List Value} (h:ExtA w a n c sz f):∃ b off,0<n→a=some ⟨b,off,none⟩∧ExtC w b off sz n f:=by
  by_cases hn:0<n
  · obtain ⟨b,off,q⟩:=h.2.2 hn
    exact ⟨b,off,fun _=>q⟩
  · exact ⟨0,0,fun q=>absurd q hn⟩
theorem ExtA.lt {w:World} {a:Option Addr} {n c sz:Nat} {f:Nat→List Value} (h:ExtA w a n c sz f):n≤maxLen:=Nat.le_trans h.1 h.2.1
theorem ExtC.cell {w0 w:World} {B b off sz n:Nat} {f:Nat→List Value} (h:ExtC w0 b off sz n f) (hB:w0.heap.size≤B) (hw:Below B w0 w) {i j:Nat} {v:Value} (hi:i<n) (hv:(f i)[j]? = some v):w.cell? ⟨b,off+i*sz+j,none⟩=some v:=
  (hw.cell (p:=⟨b,off+i*sz+j,none⟩) (Nat.lt_of_lt_of_le h.1 hB)).trans (h.2 i hi j v hv)
theorem My {T:TypeId} {k:TypeDesc} (hu:Tryz.prog.underlying T=some k) (hk:k.isRow=false) {sz:Nat} {w0 w:World} {B b off n j i o:Nat} {f:Nat→List Value} (h:ExtC w0 b off sz n f) (hB:w0.heap.size≤B) (hw:Below B w0 w∧B≤w0.heap.size) (hj:j<n) (ho:off+j*sz+i=o) {v:Value} (hv:(f j)[i]? = some v) :
    (Instr.loadAt T (.pointer (some ⟨b,o,none⟩))).run Tryz.prog w=.ok v w:=by
  subst ho
  exact ldC hu hk (h.cell hB hw.1 hj hv)
theorem OJ {w:World} {x:Addr} {v:Value} (h:w.cell? x=some v):x.spot=none:=by
  unfold World.cell? at h
  cases hs:x.spot with
  | none=>rfl
  | some q=>simp [hs] at h;split at h<;>simp_all
theorem QS {α H:Type} {enc:TypeId×Value→H} {W:World} {base:Nat} {held:Bool} {a:Option Addr} {n c:Nat} {d:DataW H} {p:List MemPlace} {t e:TypeId} {sz:Nat} (z:α) (cells:α→List Value) (good:α→Prop)
    (ht:Tryz.prog.underlying t=some (.slice e)) (hk:Tryz.prog.cellsOf e=sz) (hs:0<sz)
    (hE:∀ (fuel:Nat) (cs:List Value) (x:DataW H×List MemPlace),cs.length=sz→DataW.trod enc Tryz.prog W base (fun _=>true) held fuel e cs=some x→∃ v,cs=cells v∧good v)
    (h:DataW.Trod enc Tryz.prog W base (fun _=>true) held t (.slice a n c) d p):∃ f:Nat→α,ExtA W a n c sz (fun i=>cells (f i))∧∀ i,i<n→good (f i):=by
  obtain ⟨fuel,hf⟩:=h
  rcases open_slice ht hf with ⟨hcs,_⟩ | ⟨x,len,cap,m,q,D,Pl,hcs,_,hl,hm,hmm,_,hi⟩
  · simp [Value.cells] at hcs
    obtain ⟨rfl,rfl,rfl⟩:=hcs
    exact ⟨fun _=>z,⟨Nat.le_refl _,Nat.zero_le _,fun h=>absurd h ω⟩,fun i h=>absurd h ω⟩
  · simp [Value.cells] at hcs
    obtain ⟨rfl,rfl,rfl⟩:=hcs
    have hnm:n≤m:=by rw [hmm];split<;>omega
    have one:∀ i,∃ v:α,i<n→(cells v).length=sz∧(∀ (j:Nat) u,(cells v)[j]? = some u→W.cell? ((x.add (i*sz)).add j)=some u)∧good v:=by
      intro i
      by_cases hlt:i<n
      · obtain ⟨cs',hc,htr⟩:=hi i ω
        rw [hk] at hc
        obtain ⟨_,hlen,hat⟩:=World.cells?_some hc
        obtain ⟨v,e1,hg⟩:=hE q cs' _ hlen htr
        subst e1
        refine ⟨v,fun _=>⟨hlen,fun j u hj=>?_,hg⟩⟩
        obtain ⟨h1,h2⟩:=List.getElem?_eq_some_iff.1 hj
        have:=hat j ω
        rw [this,← h2]
        exact List.getElem?_eq_getElem h1
      · exact ⟨z,fun h=>absurd h hlt⟩
    obtain ⟨f,hf⟩:=Classical.skolem.1 one
    refine ⟨f,⟨hl,hm,fun hn=>?_⟩,fun i hi=>(hf i hi).2.2⟩
    have hl0:=(hf 0 hn).1
    obtain ⟨u,hu⟩:∃ u,(cells (f 0))[0]? = some u:=⟨_,List.getElem?_eq_getElem ω⟩
    have hq:=(hf 0 hn).2.1 0 u hu
    rw [Nat.zero_mul,show (x.add 0).add 0=x from by unfold Addr.add;simp] at hq
    have hsp:=OJ hq
    obtain ⟨b,off,sp⟩:=x
    simp at hsp
    subst hsp
    refine ⟨b,off,rfl,?_,fun i hi j v hj=>?_⟩
    · exact World.block_lt_of_cell? W _ hq
    · have h0:=(hf i hi).2.1 j v hj
      rw [Addr.add_mid,Addr.add_mid] at h0
      exact h0
end
section
theorem Rk (X Y:List UInt8):Ad X++Ad Y=Ad (X++Y):=by
  apply ByteArray.ext;rw [ByteArray.data_append];simp [Ad]
theorem KQ {X Y:List UInt8}:Ad X=Ad Y↔X=Y:=Sc X Y
theorem Gh {l:List (Nat×Value)} {x:Operand} {v:Value} {xs:List Operand} {vs:List Value} (h:opv l x=some v) (hs:xs.map (opv l)=vs.map some):(x::xs).map (opv l)=(v::vs).map some:=by
  rw [List.map_cons,List.map_cons,h,hs]
def ltN (x y:ByteArray):Bool:=decide (x.data.toList<y.data.toList)
def sE (x:ByteArray):List Value:=[.string x]
theorem Ej (x:ByteArray):(sE x).length=1:=rfl
theorem LP (L:List ByteArray):L.flatMap sE=L.map Le:=by induction L<;>simp_all [sE,Le]
section
variable {P:Program} {o:Oper} {a:Act} {N:Nat} {l:List (Nat×Value)}
theorem CH (h:Kn N l a) {x:Operand} {T:TypeId} (ho:o.op=.call { callee:=.builtin .len,args:=#[x],argTypes:=#[T] }) {X:List UInt8} (hx:opv l x=some (σ X)) (hu:P.underlying T=some .string) (w:World):(execOp a.eval o).run P w=.ok (.value (ν (X.length:Int))) w:=by
  have z:=Tx (P:=P) h ho hx hu w
  rw [Dd] at z;exact z
theorem FK (T:TypeId) (x y:Operand) (X Y:List UInt8) {t:Bool} (ht:decide (X=Y)=t) (w:World):(do eqGuard .eql T x y (σ X) (σ Y);binOp .eql T (σ X) (σ Y):Sem Value).run P w=.ok (.bool t) w:=
  PU .eql T x y _ _ (by rw [← ht,Ew];exact congrArg some (decide_eq_decide.2 KQ)) w
theorem Od (T:TypeId) (x y:Operand) (X Y:List UInt8) {t:Bool} (ht:decide (X≠Y)=t) (w:World):(do eqGuard .neq T x y (σ X) (σ Y);binOp .neq T (σ X) (σ Y):Sem Value).run P w=.ok (.bool t) w:=
  PU .neq T x y _ _ (by rw [← ht,Ew,← decide_not];exact congrArg some (decide_eq_decide.2 (not_congr KQ))) w
theorem RA (T:TypeId) (x y:Operand) (X Y:ByteArray) {t:Bool} (ht:decide (X=Y)=t) (w:World):(do eqGuard .eql T x y (.string X) (.string Y);binOp .eql T (.string X) (.string Y):Sem Value).run P w=.ok (.bool t) w:=
  PU .eql T x y _ _ (by rw [← ht,Ew]) w
theorem Oc (T:TypeId) (x y:Operand) (X Y:ByteArray) {t:Bool} (ht:decide (X≠Y)=t) (w:World):(do eqGuard .neq T x y (.string X) (.string Y);binOp .neq T (.string X) (.string Y):Sem Value).run P w=.ok (.bool t) w:=
  PU .neq T x y _ _ (by rw [← ht,Ew,← decide_not]) w
theorem QI (x y:ByteArray):Op.bytesLess x.toList y.toList=ltN x y:=by
  rw [bytesLess_eq,ByteArray.toList_eq,ByteArray.toList_eq];rfl
theorem SA (T:TypeId) (x y:Operand) (X Y:ByteArray) (w:World):(do eqGuard .lss T x y (.string X) (.string Y);binOp .lss T (.string X) (.string Y):Sem Value).run P w=.ok (.bool (ltN X Y)) w:=
  PU .lss T x y _ _ (by rw [QI]) w
theorem DK (T:TypeId) (x y:Operand) (X Y:List UInt8) (hl:X.length+Y.length≤9223372036854775807) (w:World):(do eqGuard .add T x y (σ X) (σ Y);binOp .add T (σ X) (σ Y):Sem Value).run P w=.ok (σ (X++Y)) w:=by
  have h1:((Ad X).size:Int)+((Ad Y).size:Int)≤9223372036854775807:=by
    rw [Dd,Dd]
    omega
  simp [eqGuard,binOp,Op.stringOp,Sem.run_bind,h1,Rk]
theorem slT (T:TypeId) (hu:P.underlying T=some .string) (X:List UInt8) {lo hi:Option Value} {a b:Nat} (ha:(lo=none∧a=0)∨(∃ i,lo=some (ν i)∧i=(a:Int))) (hb:(hi=none∧b=X.length)∨(∃ i,hi=some (ν i)∧i=(b:Int))) (h1:a≤b) (h2:b≤X.length) (w:World) :
    (Instr.sliceAt T (σ X) lo hi none).run P w=.ok (σ ((X.take b).drop a)) w:=by
  have e:(Ad X).extract a b=Ad ((X.take b).drop a):=by rw [Hm,DG,List.drop_take]
  have i1:(a:Int)≤b:=ω
  have i2:(b:Int)≤X.length:=ω
  rcases ha with ⟨rfl,rfl⟩ | ⟨i,rfl,rfl⟩<;>rcases hb with ⟨rfl,rfl⟩ | ⟨k,rfl,rfl⟩ <;>
    simp [Instr.sliceAt,Instr.slice,Instr.sliceBounds,Instr.sliceBound,asIntOf,underlying,hu,Sem.run_bind,Dd,i1,i2,h1,h2,e]<;>rw [Hm,DG]<;>simp
theorem EA (h:Kn N l a) {T:TypeId} {x:Operand} {lo hi:Option Operand} (ho:o.op=.slice T x lo hi none) {v u:Value} (hx:opv l x=some v) {vl vh:Option Value} (hl:lo.map (opv l)=vl.map some) (hh:hi.map (opv l)=vh.map some) (hf:∀ w,(Instr.sliceAt T v vl vh none).run P w=.ok u w) (w:World):(execOp a.eval o).run P w=.ok (.value u) w:=by
  have e1:lo.map a.eval=vl:=by
    cases lo with
    | none=>cases vl with
      | none=>rfl
      | some q=>simp at hl
    | some p=>cases vl with
      | none=>simp at hl
      | some q=>simp at hl;simp [h.op hl]
  have e2:hi.map a.eval=vh:=by
    cases hi with
    | none=>cases vh with
      | none=>rfl
      | some q=>simp at hh
    | some p=>cases vh with
      | none=>simp at hh
      | some q=>simp at hh;simp [h.op hh]
  unfold execOp;rw [ho]
  simp only [h.op hx,e1,e2]
  exact EB (hf w)
theorem slL (T E:TypeId) (hu:P.underlying T=some (.slice E)) (hE:((P.info? E).map (·.size)).isSome=true) (ad:Option Addr) (n c:Nat) {b:Nat} (hb:b≤c) (w:World) :
    (Instr.sliceAt T (.slice ad n c) none (some (ν (b:Int))) none).run P w=.ok (.slice ad b c) w:=by
  have i1:(b:Int)≤c:=ω
  cases hq:P.info? E with
  | none=>simp [hq] at hE
  | some q=>
    simp [Instr.sliceAt,Instr.slice,Instr.sliceBounds,Instr.sliceBound,asIntOf,underlying,hu,Sem.run_bind,sizeOf,typeInfo,hq,i1]
    cases ad<;>simp [Addr.add]<;>exact fun q=>absurd q ω
theorem Ou (h:Kn N l a) {x y:Operand} {ts:Array TypeId} (ho:o.op=.call { callee:=.builtin .max,args:=#[x,y],argTypes:=ts }) {i j r:Int} {k:IntKind} (hx:opv l x=some (.int k i)) (hy:opv l y=some (.int k j)) (e:(if j>i then j else i)=r) (w:World):(execOp a.eval o).run P w=.ok (.value (.int k r)) w:=by
  subst e
  refine Fe h (xs:=[x,y]) (vs:=[.int k i,.int k j]) ho (by simp [hx,hy]) fun cs=>?_
  simp [builtin,Builtin.max_,Builtin.max2,Sem.run_bind]
theorem JA (h:Kn N l a) {x y:Operand} {ts:Array TypeId} (ho:o.op=.call { callee:=.builtin .min,args:=#[x,y],argTypes:=ts }) {i j r:Int} {k:IntKind} (hx:opv l x=some (.int k i)) (hy:opv l y=some (.int k j)) (e:(if j<i then j else i)=r) (w:World):(execOp a.eval o).run P w=.ok (.value (.int k r)) w:=by
  subst e
  refine Fe h (xs:=[x,y]) (vs:=[.int k i,.int k j]) ho (by simp [hx,hy]) fun cs=>?_
  simp [builtin,Builtin.min_,Builtin.min2,Sem.run_bind]
end
section
variable {P:Program} {Q:Exit→Act→World→Prop} {o:Oper} {a:Act} {w w':World} {N:Nat} {l:List (Nat×Value)} {K:Act→World→Prop} {cs:List Ch}
theorem FI {α:Type} {enc:α→List Value} {sz:Nat} (henc:∀ x,(enc x).length=sz) (h:Kn N l a) (hd:o.dst=none) {T:TypeId} {x y:Operand} (ho:o.op=.store T x y) (hS:Sep w cs) (i:Nat) {B:Nat} {e:TypeId} {ad:Option Addr} {q c j f off:Nat} {L:List α} (hi:cs[i]? = some (Ak B e sz ad L.length c (L.flatMap enc))) (ha:ad=some ⟨q,0,none⟩) (hx:opv l x=some (.pointer (some ⟨q,off,none⟩))) {u:Value} (hy:opv l y=some u) (hu:u.cells=#[u]) (hone:u.oneCell'=true)
    (z m:α) (hm:(enc (L.getD j z)).set f u=enc m)
    (hn:(P.info? T).map (·.size)=some 1) (hj:j<L.length) (hf:f<sz) (hoff:j*sz+f=off) {n':Nat} (hn':L.length=n')
    (k:∀ a' w',Kn N l a'→Sep w' (cs.set i (Ak B e sz ad n' c ((L.set j m).flatMap enc)))→K a' w'):Oper.wp P o a w K Q:=by
  subst ha;subst hn'
  have hO:Own w B e sz (some ⟨q,0,none⟩) L.length c (L.flatMap enc):=hS.get i hi
  obtain ⟨L',hb,hle,hB,hk⟩:=NE hO
  have hle2:j*sz+sz≤L.length*sz:=by rw [← Nat.succ_mul];exact Nat.mul_le_mul_right _ hj
  have hfit:off+([u]:List Value).length≤L.length*sz:=by simp only [List.length_cons,List.length_nil];omega
  obtain ⟨h2,h3⟩:=Blk.setCells [u] off w L' hb ω
  have hr:=run_storeAt_mid (P:=P) w q off T #[u] (by simpa using hb.there off 1 (by simp only [List.length_cons,List.length_nil] at hfit;omega)) (by simpa using hn) (by simpa using hone)
  have hown:=hk _ off [u] hfit h2
  have e2:splice (L.flatMap enc) off [u]=(L.set j m).flatMap enc:=by
    rw [← SL henc hj rfl,← hm]
    subst hoff
    have hlen:(L.flatMap enc).length=L.length*sz:=Nt henc L
    have hel:(enc (L.getD j z)).length=sz:=henc _
    refine List.ext_getElem? fun p=>?_
    unfold splice
    have t1:(List.take (j*sz+f) (L.flatMap enc)).length=j*sz+f:=by rw [List.length_take];omega
    have t2:(List.take (j*sz) (L.flatMap enc)).length=j*sz:=by rw [List.length_take];omega
    rcases Nat.lt_trichotomy p (j*sz+f) with hp | hp | hp
    · rw [List.getElem?_append_left ω,List.getElem?_take,if_pos hp]
      by_cases hp2:p<j*sz
      · rw [List.getElem?_append_left ω,List.getElem?_take,if_pos hp2]
      · rw [List.getElem?_append_right ω,t2,List.getElem?_append_left (by rw [List.length_set];omega),List.getElem?_set_ne ω]
        have:=Ks henc (L:=L) (j:=j) (k:=p-j*sz) (o:=p) z hj ω ω
        exact this
    · subst hp
      rw [List.getElem?_append_right ω,t1,Nat.sub_self]
      show some u=_
      rw [List.getElem?_append_right ω,t2,List.getElem?_append_left (by rw [List.length_set];omega),show j*sz+f-j*sz=f by omega,List.getElem?_set_self ω]
    · rw [List.getElem?_append_right ω,t1,List.getElem?_append_right (by simp only [List.length_cons,List.length_nil];omega),List.getElem?_drop]
      rw [show j*sz+f+[u].length+(p-(j*sz+f) - [u].length)=p by simp only [List.length_cons,List.length_nil];omega]
      by_cases hp2:p<j*sz+sz
      · rw [List.getElem?_append_right ω,t2,List.getElem?_append_left (by rw [List.length_set];omega),List.getElem?_set_ne ω]
        have:=Ks henc (L:=L) (j:=j) (k:=p-j*sz) (o:=p) z hj ω ω
        exact this
      · rw [List.getElem?_append_right ω,t2,List.getElem?_append_right (by rw [List.length_set];omega),List.length_set,List.getElem?_drop,hel]
        congr 1;omega
  rw [e2] at hown
  refine Hr (w':=w.setCells q off [u]) h hd ?_ fun a' h'=>k a' _ h' (hS.upd i hi (Turns.of_grown (X:=fun k=>k=q) h3 rfl) (fun k _ hk=>?_) (c':=Ak B e sz (some ⟨q,0,none⟩) L.length c ((L.set j m).flatMap enc)) hown (fun k hk=>.inl hk))
  · unfold execOp;rw [ho];simp only [h.op hx,h.op hy]
    rw [Sem.run_bind,GD hu,hr]
    rfl
  · subst hk;rfl
end
end
section
structure NodeM where
  dir:Bool
  data:List UInt8
  links:Int
def Ar:NodeM:=⟨false,[],0⟩
structure EntM where
  dn:Nat
  nm:ByteArray
  nd:Nat
def AU:EntM:=⟨0,⟨#[]⟩,0⟩
structure OpM where
  cl:Int
  fd:Int
  nd:Nat
def BN:OpM:=⟨0,0,0⟩
structure FsM where
  N:List NodeM
  E:List EntM
  O:List OpM
def fs0:FsM:=⟨[⟨true,[],1⟩],[],[]⟩
def FsM.at (F:FsM) (k:Nat):NodeM:=F.N.getD k Ar
def FsM.dir (F:FsM) (k:Nat):Bool:=(F.at k).dir
def Ai (E:List EntM) (d:Nat) (s:ByteArray):Option Nat:=(E.find? fun x=>decide (x.dn=d∧x.nm=s)).map (·.nd)
def Az (O:List OpM) (c fd:Int):Option Nat:=(O.find? fun x=>decide (x.cl=c∧x.fd=fd)).map (·.nd)
def BY (E:List EntM) (d:Nat) (s:ByteArray):List EntM:=E.filter fun x=>!decide (x.dn=d∧x.nm=s)
def Da (O:List OpM) (c fd:Int):List OpM:=O.filter fun x=>!decide (x.cl=c∧x.fd=fd)
def BH (E:List EntM) (d:Nat):Nat:=(E.filter fun x=>decide (x.dn=d)).length
def Al (E:List EntM) (d:Nat):List ByteArray:=(E.filter fun x=>decide (x.dn=d)).map (·.nm)
def Ao (F:FsM):Nat→List ByteArray→Int×Nat
  | n,[]=>(0,n)
  | n,s::L=>if F.dir n=true then (match Ai F.E n s with | none=>(10,0) | some m=>Ao F m L) else (12,0)
def Ac (F:FsM) (X:List UInt8):Int×Nat:=match Ag X with | none=>(15,0) | some L=>Ao F 0 L
def Bv:ByteArray:=⟨#[]⟩
def EO (F:FsM) (L:List ByteArray) (x:ByteArray):Int×Nat×ByteArray:=
  if (Ao F 0 L).1=0 then (if F.dir (Ao F 0 L).2=true then (0,(Ao F 0 L).2,x) else (12,0,Bv)) else ((Ao F 0 L).1,0,Bv)
def Aa (F:FsM) (X:List UInt8):Int×Nat×ByteArray:=match Ag X with
  | none=>(15,0,Bv)
  | some L=>if L=[] then (15,0,Bv) else EO F L.dropLast (L.getLastD Bv)
def Dm (F:FsM) (c:Int):Option Nat:=(List.range 8).find? fun fd=>(Az F.O c (fd:Int)).isNone
structure RepM where
  e:Int
  fd:Int
  data:List UInt8
  names:List ByteArray
  kind:Int
  links:Int
  size:Int
def Au (e:Int):RepM:=⟨e,0,[],[],0,0,0⟩
def fdR (fd:Int):RepM:=⟨0,fd,[],[],0,0,0⟩
def FL (d:List UInt8):RepM:=⟨0,0,d,[],0,0,0⟩
def Nv (L:List ByteArray):RepM:=⟨0,0,[],L,0,0,0⟩
def Jw (k l s:Int):RepM:=⟨0,0,[],[],k,l,s⟩
def Bu (F:FsM) (d:Nat) (s:ByteArray) (m:Nat):FsM:={ F with E:=F.E++[⟨d,s,m⟩] }
def Aq (F:FsM) (d:Nat) (s:ByteArray):FsM:={ F with E:=BY F.E d s }
def AL (F:FsM) (dir:Bool):FsM:={ F with N:=F.N++[⟨dir,[],1⟩] }
def fdF (F:FsM) (c fd:Int) (m:Nat):FsM:={ F with O:=F.O++[⟨c,fd,m⟩] }
def BE (F:FsM) (n:Nat) (i:Int):FsM:={ F with N:=F.N.set n { F.at n with links:=(F.at n).links+i } }
def BX (F:FsM) (n:Nat) (d:List UInt8):FsM:={ F with N:=F.N.set n { F.at n with data:=d } }
def Ba (d:List UInt8) (n:Nat):List UInt8:=d.take n++List.replicate (n-d.length) 0
def AT (F:FsM) (c:Int) (X:List UInt8) (fl:Int):FsM×RepM:=
  if fl=0∨fl=1∨fl=3 then
    if (Ac F X).1=0 then
      if fl=3 then (F,Au 11) else if F.dir (Ac F X).2=true then (F,Au 13) else
        match Dm F c with | none=>(F,Au 17) | some fd=>(fdF F c fd (Ac F X).2,fdR fd)
    else if (Ac F X).1=10∧(Aa F X).1=0∧fl≠0 then
      match Dm F c with | none=>(F,Au 17) | some fd=>(fdF (Bu (AL F false) (Aa F X).2.1 (Aa F X).2.2 F.N.length) c fd F.N.length,fdR fd)
    else (F,Au (Ac F X).1)
  else (F,Au 15)
def BM (F:FsM) (c fd:Int):FsM×RepM:=match Az F.O c fd with | none=>(F,Au 16) | some _=>({ F with O:=Da F.O c fd },Au 0)
def Ca (F:FsM) (c fd off n:Int):FsM×RepM:=match Az F.O c fd with
  | none=>(F,Au 16)
  | some k=>if off<0∨n<0∨n>64 then (F,Au 15) else (F,FL (((F.at k).data.drop off.toNat).take n.toNat))
def CK (d:List UInt8) (off:Nat) (b:List UInt8):List UInt8:=Ba d off++b++d.drop (off+b.length)
def Bc (F:FsM) (c fd off:Int) (b:List UInt8):FsM×RepM:=match Az F.O c fd with
  | none=>(F,Au 16)
  | some k=>if off<0∨b.length>64 then (F,Au 15) else if b.length=0 then (F,Au 0) else if off+b.length>256 then (F,Au 19) else (BX F k (CK (F.at k).data off.toNat b),Au 0)
def BF (F:FsM) (c fd n:Int):FsM×RepM:=match Az F.O c fd with
  | none=>(F,Au 16)
  | some k=>if n<0 then (F,Au 15) else if n>256 then (F,Au 19) else (BX F k (Ba (F.at k).data n.toNat),Au 0)
def Cs (F:FsM) (c fd:Int):FsM×RepM:=match Az F.O c fd with | none=>(F,Au 16) | some _=>(F,Au 0)
def CC (F:FsM) (X:List UInt8):FsM×RepM:=
  if (Ac F X).1=0 then (F,Au 11) else if (Aa F X).1=0 then (Bu (AL F true) (Aa F X).2.1 (Aa F X).2.2 F.N.length,Au 0) else (F,Au (Aa F X).1)
def Bo (F:FsM) (X:List UInt8):FsM×RepM:=
  if X=[47] then (F,Au 15) else if (Ac F X).1=0 then
    if F.dir (Ac F X).2=true then (if 0<BH F.E (Ac F X).2 then (F,Au 14) else (Aq F (Aa F X).2.1 (Aa F X).2.2,Au 0)) else (F,Au 12)
  else (F,Au (Ac F X).1)
def AQ (F:FsM) (X Y:List UInt8):FsM×RepM:=
  if (Ag X).isSome=true∧(Ag Y).isSome=true then
    if (Ac F X).1=0 then
      if F.dir (Ac F X).2=true then (F,Au 13) else if Y=[47] then (F,Au 11) else if (Aa F Y).1=0 then
        if (Ai F.E (Aa F Y).2.1 (Aa F Y).2.2).isSome=true then (F,Au 11) else if (F.at (Ac F X).2).links=20 then (F,Au 20)
        else (BE (Bu F (Aa F Y).2.1 (Aa F Y).2.2 (Ac F X).2) (Ac F X).2 1,Au 0)
      else (F,Au (Aa F Y).1)
    else (F,Au (Ac F X).1)
  else (F,Au 15)
def Cc (F:FsM) (X:List UInt8):FsM×RepM:=
  if (Ac F X).1=0 then
    if F.dir (Ac F X).2=true then (F,Au 13) else (BE (Aq F (Aa F X).2.1 (Aa F X).2.2) (Ac F X).2 (-1),Au 0)
  else (F,Au (Ac F X).1)
def movedF (F:FsM) (X:List UInt8) (d:Nat) (s:ByteArray) (n:Nat):FsM:=Bu (Aq F (Aa F X).2.1 (Aa F X).2.2) d s n
def Af (F:FsM) (d:Nat) (s:ByteArray) (m:Nat):FsM:=if F.dir m=true then Aq F d s else BE (Aq F d s) m (-1)
def Bh (F:FsM) (X:List UInt8) (d:Nat) (s:ByteArray) (n:Nat):FsM×RepM:=match Ai F.E d s with
  | none=>(movedF F X d s n,Au 0)
  | some m=>if m=n then (F,Au 0) else if F.dir n=true∧F.dir m=false then (F,Au 12) else if F.dir n=true∧0<BH F.E m then (F,Au 14) else if F.dir n=false∧F.dir m=true then (F,Au 13) else (movedF (Af F d s m) X d s n,Au 0)
def Am (F:FsM) (X Y:List UInt8):FsM×RepM:=
  if ((Ag X).isSome=true∧(Ag Y).isSome=true)∧¬ X=[47]∧¬ Y=[47] then
    if (Ac F X).1=0 then
      if (F.dir (Ac F X).2=true∧¬ X=Y)∧CX (Ag Y) (Ag X)=true then (F,Au 15) else if (Aa F Y).1=0 then Bh F X (Aa F Y).2.1 (Aa F Y).2.2 (Ac F X).2 else (F,Au (Aa F Y).1)
    else (F,Au (Ac F X).1)
  else (F,Au 15)
def FR (x:ByteArray):List ByteArray→List ByteArray
  | []=>[x]
  | y::r=>if ltN x y=true then x::y::r else y::FR x r
def AC (L:List ByteArray):List ByteArray:=L.foldl (fun acc x=>FR x acc) []
def Cq (F:FsM) (X:List UInt8):FsM×RepM:=
  if (Ac F X).1=0 then (if F.dir (Ac F X).2=true then (F,Nv (AC (Al F.E (Ac F X).2))) else (F,Au 12)) else (F,Au (Ac F X).1)
def Ci (F:FsM) (X:List UInt8):FsM×RepM:=
  if (Ac F X).1=0 then (if F.dir (Ac F X).2=true then (F,Jw 2 1 (BH F.E (Ac F X).2)) else (F,Jw 1 (F.at (Ac F X).2).links (F.at (Ac F X).2).data.length)) else (F,Au (Ac F X).1)
structure CallM where
  kind:Int
  p1:List UInt8
  p2:List UInt8
  fl:Int
  fd:Int
  off:Int
  n:Int
  data:List UInt8
def Ev (F:FsM) (c:Int):FsM:={ F with O:=F.O.filter fun x=>!decide (x.cl=c) }
def Er (F:FsM) (c:Int) (x:CallM):FsM×RepM:=
  if x.kind=1 then AT F c x.p1 x.fl else if x.kind=2 then BM F c x.fd else if x.kind=3 then Ca F c x.fd x.off x.n else if x.kind=4 then Bc F c x.fd x.off x.data
  else if x.kind=5 then BF F c x.fd x.n else if x.kind=6 then Cs F c x.fd else if x.kind=7 then CC F x.p1 else if x.kind=8 then Bo F x.p1 else if x.kind=9 then AQ F x.p1 x.p2
  else if x.kind=10 then Cc F x.p1 else if x.kind=11 then Am F x.p1 x.p2 else if x.kind=12 then Cq F x.p1 else if x.kind=13 then Ci F x.p1 else (F,Au 15)
def doF (F:FsM) (c:Int) (x:CallM):FsM×RepM:=if c<1∨c>8 then (F,Au 1) else Er F c x
abbrev cL (x:CallM):List Value:=[ν x.kind,σ x.p1,σ x.p2,ν x.fl,ν x.fd,ν x.off,ν x.n,σ x.data]
abbrev zL:List Value:=[ν 0,ν 0,σ [],.slice none 0 0,ν 0,ν 0,ν 0]
theorem Sq {b:Bool} (h:b=false):¬ b=true:=fun q=>by rw [h] at q;cases q
theorem bx {α:Type} {a b:α} (h:a=b:=by
  (first | unfold doF | unfold AT | unfold BM | unfold Ca | unfold Bc | unfold BF | unfold Cs | unfold CC | unfold Bo | unfold AQ | unfold Cc | unfold Am | unfold Cq | unfold Ci)
  repeat (first | rw [if_pos ω] | rw [if_neg ω] | rw [if_pos (by assumption)] | rw [if_neg (Sq (by assumption))] | rw [if_neg (by assumption)] | rw [if_pos ⟨by assumption,by assumption⟩] | unfold Er | (rw [‹Az _ _ _=_›];try dsimp only) | unfold BM | unfold Ca | unfold Bc | unfold BF | unfold Cs | unfold CC | unfold Cc | (rw [‹Dm _ _=_›];try dsimp only) | unfold Bh | (rw [‹Ai _ _ _=_›];try dsimp only))):a=b:=h
end
section
def lkU:List (Nat×Value)→Nat→Option Value
  | [],_=>none
  | (k,v)::r,n=>match Nat.beq k n with
    | true=>some v
    | false=>lkU r n
def opU (l:List (Nat×Value)):Operand→Option Value
  | .tmp k=>lkU l k
  | .const v=>some v
  | .global g=>some (.pointer (some ⟨g,0,none⟩))
  | .func f=>some (.func (.func f) #[] #[])
def QT (l:List (Nat×Value)):List Operand→Option (List Value)
  | []=>some []
  | x::r=>match opU l x,QT l r with
    | some v,some vs=>some (v::vs)
    | _,_=>none
def frU:List (Nat×Value)→Nat→Bool
  | [],_=>true
  | (k,_)::r,d=>match Nat.beq k d with
    | true=>false
    | false=>frU r d
def prU (d:Nat):Option Value→Option (Nat×Value)
  | some v=>some (d,v)
  | none=>none
def GL (N:Nat) (l:List (Nat×Value)) (o:Oper):Option Nat:=
  match o.guard with
  | some _=>none
  | none=>match o.dst with
    | none=>none
    | some d=>match Nat.ble (d+1) N with
      | false=>none
      | true=>match frU l d with
        | false=>none
        | true=>some d
def Sf (l:List (Nat×Value)):Op→Option Value
  | .move x=>opU l x
  | .assign x=>opU l x
  | .extract x i=>match opU l x with
    | some (.tuple vs)=>vs.toList[i]?
    | _=>none
  | .nilCheck x=>match opU l x with
    | some (.pointer (some p))=>some (.pointer (some p))
    | some (.func (.func f) xs ys)=>some (.func (.func f) xs ys)
    | _=>none
  | .unOp .not _ x=>match opU l x with
    | some (.bool b)=>some (.bool !b)
    | _=>none
  | _=>none
def mvU (N:Nat) (l:List (Nat×Value)) (o:Oper):Option (Nat×Value):=
  match GL N l o with
  | none=>none
  | some d=>prU d (Sf l o.op)
def MN {α:Type}:List α→Nat→α→Option (List α)
  | [],_,_=>none
  | _::r,0,x=>some (x::r)
  | c::r,i+1,x=>match MN r i x with
    | some s=>some (c::s)
    | none=>none
def Kw:Nat→List Nat→Bool
  | _,[]=>true
  | i,j::r=>match Nat.beq i j with
    | true=>false
    | false=>Kw i r
def pkU {α:Type} (cs:List α):List Nat→Option (List α)
  | []=>some []
  | i::is=>match Kw i is with
    | false=>none
    | true=>match cs[i]? with
      | none=>none
      | some c=>match pkU cs is with
        | none=>none
        | some r=>some (c::r)
def PF (l:List (Nat×Value)):List Nat→Option (List (Nat×Value))
  | []=>some []
  | k::ks=>match lkU l k with
    | none=>none
    | some v=>match PF l ks with
      | none=>none
      | some r=>some ((k,v)::r)
theorem MA (l:List (Nat×Value)) (n:Nat):lkU l n=(l.find? fun y=>y.1 == n).map (·.2):=by
  induction l with
  | nil=>rfl
  | cons y r ih=>
    obtain ⟨k,v⟩:=y
    cases e:Nat.beq k n with
    | true=>
      have e2:(k == n)=true:=beq_iff_eq.2 (Nat.eq_of_beq_eq_true e)
      simp [lkU,e,e2]
    | false=>
      have e2:(k == n)=false:=beq_eq_false_iff_ne.2 (Nat.ne_of_beq_eq_false e)
      simp only [lkU,e,List.find?_cons,e2,ih]
theorem CG (l:List (Nat×Value)) (x:Operand):opU l x=opv l x:=by
  cases x with
  | tmp k=>exact MA l k
  | _=>rfl
theorem QU {l:List (Nat×Value)}:∀ {xs:List Operand} {vs:List Value},QT l xs=some vs→xs.map (opv l)=vs.map some:=by
  intro xs
  induction xs with
  | nil=>intro vs h;cases h;rfl
  | cons x r ih=>
    intro vs h
    unfold QT at h
    cases hx:opU l x with
    | none=>simp [hx] at h
    | some v=>
      cases hr:QT l r with
      | none=>simp [hx,hr] at h
      | some us=>
        simp only [hx,hr,Option.some.injEq] at h
        subst h
        rw [List.map_cons,List.map_cons,ih hr,← CG,hx]
theorem RL {l:List (Nat×Value)} {d:Nat} (h:frU l d=true):l.all (fun x=>!(x.1 == d))=true:=by
  induction l with
  | nil=>rfl
  | cons y r ih=>
    obtain ⟨k,v⟩:=y
    unfold frU at h
    cases e:Nat.beq k d with
    | true=>simp [e] at h
    | false=>
      simp only [e] at h
      have e2:(k == d)=false:=beq_eq_false_iff_ne.2 (Nat.ne_of_beq_eq_false e)
      simp only [List.all_cons,e2,ih h];rfl
theorem Gb {N:Nat} {l:List (Nat×Value)} {o:Oper} {d:Nat} (h:GL N l o=some d):o.guard=none∧o.dst=some d∧decide (d<N)=true∧l.all (fun x=>!(x.1 == d))=true:=by
  unfold GL at h
  cases hg:o.guard with
  | some g=>simp [hg] at h
  | none=>
    cases hd:o.dst with
    | none=>simp [hg,hd] at h
    | some e=>
      cases hn:Nat.ble (e+1) N with
      | false=>simp [hg,hd,hn] at h
      | true=>
        cases hf:frU l e with
        | false=>simp [hg,hd,hn,hf] at h
        | true=>
          simp only [hg,hd,hn,hf,Option.some.injEq] at h
          subst h
          exact ⟨rfl,rfl,decide_eq_true (Nat.le_of_ble_eq_true hn),RL hf⟩
theorem KI {α:Type}:∀ {L:List α} {i:Nat} {x:α} {L':List α},MN L i x=some L'→L'=L.set i x∧i<L.length:=by
  intro L
  induction L with
  | nil=>intro i x L' h;cases h
  | cons c r ih=>
    intro i x L' h
    cases i with
    | zero=>cases h;exact ⟨rfl,Nat.succ_pos _⟩
    | succ i=>
      unfold MN at h
      cases e:MN r i x with
      | none=>simp [e] at h
      | some s=>
        simp only [e,Option.some.injEq] at h
        subst h
        obtain ⟨e1,e2⟩:=ih e
        exact ⟨by rw [e1];rfl,Nat.succ_lt_succ e2⟩
theorem Nz {i:Nat} {js:List Nat} (h:Kw i js=true):i∉js:=by
  induction js with
  | nil=>simp
  | cons j r ih=>
    unfold Kw at h
    cases e:Nat.beq i j with
    | true=>simp [e] at h
    | false=>
      simp only [e] at h
      have e2:i≠j:=fun q=>by subst q;rw [Nat.beq_refl] at e;cases e
      simp [e2,ih h]
theorem Oq {α:Type} {cs:List α}:∀ {is:List Nat} {out:List α},pkU cs is=some out→is.Nodup∧is.map (fun i=>cs[i]?)=out.map some:=by
  intro is
  induction is with
  | nil=>intro out h;cases h;exact ⟨List.nodup_nil,rfl⟩
  | cons i r ih=>
    intro out h
    unfold pkU at h
    cases hn:Kw i r with
    | false=>simp [hn] at h
    | true=>
      cases hc:cs[i]? with
      | none=>simp [hn,hc] at h
      | some c=>
        cases hr:pkU cs r with
        | none=>simp [hn,hc,hr] at h
        | some q=>
          simp only [hn,hc,hr,Option.some.injEq] at h
          subst h
          obtain ⟨h1,h2⟩:=ih hr
          exact ⟨List.nodup_cons.2 ⟨Nz hn,h1⟩,by rw [List.map_cons,List.map_cons,h2,hc]⟩
theorem Sep.pk {w:World} {cs out:List Ch} (h:Sep w cs) (is:List Nat) (e:pkU cs is=some out):Sep w out:=h.pick is (Oq e).1 (Oq e).2
theorem Kn.sb {N:Nat} {l l':List (Nat×Value)} {a:Act} (h:Kn N l a) (ks:List Nat) (e:PF l ks=some l'):Kn N l' a:=h.subs (by
  revert l'
  induction ks with
  | nil=>intro l' e;cases e;rfl
  | cons k r ih=>
    intro l' e
    unfold PF at e
    cases hk:lkU l k with
    | none=>simp [hk] at e
    | some v=>
      cases hr:PF l r with
      | none=>simp [hk,hr] at e
      | some q=>
        simp only [hk,hr,Option.some.injEq] at e
        subst e
        rw [List.map_cons,List.map_cons,ih hr]
        congr 1
        rw [MA] at hk
        cases hf:l.find? (fun y=>y.1 == k) with
        | none=>rw [hf] at hk;cases hk
        | some y=>
          rw [hf] at hk
          have e1:y.1=k:=by simpa using List.find?_some hf
          have e2:y.2=v:=by simpa using hk
          rw [← e1,← e2])
theorem Kn.sk {N:Nat} {l l':List (Nat×Value)} {a:Act} {G:Prop} (h:Kn N l a) (ks:List Nat) (e:PF l ks=some l') (k:Kn N l' a→G):G:=k (h.sb ks e)
theorem sqr {P:Program} {Q:Exit→Act→World→Prop} {a:Act} {w:World} {id:Nat} {l:List Oper} {d:Code} (h:∀ K:Act→World→Prop,(∀ a w,d.wp P Q a w→K a w)→wpList P l.toArray (Exit.then K Q) l a w):(Code.seq (Code.region id l.toArray false) d).wp P Q a w:=
  wp_seq_k fun K hK=>wp_region_lit (h K hK)
theorem sq {P:Program} {Q:Exit→Act→World→Prop} {a:Act} {w:World} {c d:Code} (h:∀ K:Act→World→Prop,(∀ a w,d.wp P Q a w→K a w)→c.wp P (Exit.then K Q) a w):(Code.seq c d).wp P Q a w:=wp_seq_k h
theorem Kn.sn {P:Program} {ops:Array Oper} {Q:Exit→Act→World→Prop} {w:World} {N:Nat} {l l':List (Nat×Value)} {a:Act} (h:Kn N l a) (ks:List Nat) (e:PF l ks=some l') (k:Kn N l' a→Q .normal a w):wpList P ops Q [] a w:=wpList_nil (k (h.sb ks e))
section
variable {P:Program} {ops:Array Oper} {Q:Exit→Act→World→Prop} {o:Oper} {rest:List Oper} {a:Act} {w w':World} {N:Nat} {l:List (Nat×Value)} {cs cs':List Ch}
theorem Rq (h:Kn N l a) {v:Value} (e:Sf l o.op=some v) (w:World):(execOp a.eval o).run P w=.ok (.value v) w:=by
  unfold Sf at e
  split at e
  · next x ho=>exact Ap h ho (by rw [← CG];exact e) w
  · next x ho=>exact BJ h ho (by rw [← CG];exact e) w
  · next x i ho=>
    split at e
    · next vs hx=>exact Uc h ho (by rw [← CG];exact hx) (by rw [← Array.getElem?_toList];exact e) w
    · cases e
  · next x ho=>
    split at e
    · next p hx=>cases e;exact Cu h ho (by rw [← CG];exact hx) w
    · next f xs ys hx=>cases e;exact TA h ho (by rw [← CG];exact hx) w
    · cases e
  · next T x ho=>
    split at e
    · next b hx=>cases e;exact NL h ho (by rw [← CG];exact hx) w
    · cases e
  · cases e
theorem mv (h:Kn N l a) {d:Nat} {v:Value} (e:mvU N l o=some (d,v)) (k:∀ a',Kn N ((d,v)::l) a'→wpList P ops Q rest a' w):wpList P ops Q (o::rest) a w:=by
  unfold mvU at e
  cases hd:GL N l o with
  | none=>simp [hd] at e
  | some d'=>
    cases hv:Sf l o.op with
    | none=>simp [hd,hv,prU] at e
    | some v'=>
      simp only [hd,hv,prU,Option.some.injEq,Prod.mk.injEq] at e
      obtain ⟨e1,e2⟩:=e
      subst e1;subst e2
      obtain ⟨h1,h2,h3,h4⟩:=Gb hd
      exact sv h (Ab h1) h2 h3 h4 (Rq h hv) k
theorem sv1 (h:Kn N l a) {d:Nat} (e:GL N l o=some d) {v:Value} (hr:∀ w,(execOp a.eval o).run P w=.ok (.value v) w) (k:∀ a',Kn N ((d,v)::l) a'→wpList P ops Q rest a' w):wpList P ops Q (o::rest) a w:=by
  obtain ⟨h1,h2,h3,h4⟩:=Gb e
  exact sv h (Ab h1) h2 h3 h4 hr k
theorem sw1 (h:Kn N l a) {d:Nat} (e:GL N l o=some d) {v:Value} (hr:(execOp a.eval o).run P w=.ok (.value v) w) (k:∀ a',Kn N ((d,v)::l) a'→wpList P ops Q rest a' w):wpList P ops Q (o::rest) a w:=by
  obtain ⟨h1,h2,h3,h4⟩:=Gb e
  exact sw h (Ab h1) h2 h3 h4 hr k
def faU (N:Nat) (l:List (Nat×Value)) (o:Oper):Option (Nat×TypeId×Value×Nat):=
  match GL N l o with
  | none=>none
  | some d=>match o.op with
    | .fieldAddr T x f=>match opU l x with
      | some v=>some (d,T,v,f)
      | none=>none
    | _=>none
theorem fav (h:Kn N l a) {d f:Nat} {T:TypeId} {v u:Value} (e:faU N l o=some (d,T,v,f)) (hf:∀ w,(Instr.fieldAt T v f).run P w=.ok u w) (k:∀ a',Kn N ((d,u)::l) a'→wpList P ops Q rest a' w):wpList P ops Q (o::rest) a w:=by
  unfold faU at e
  cases hd:GL N l o with
  | none=>simp [hd] at e
  | some d'=>
    simp only [hd] at e
    split at e
    · next T' x f' ho=>
      split at e
      · next v' hx=>
        cases e
        exact sv1 h hd (rfa h ho (by rw [← CG];exact hx) hf) k
      · cases e
    · cases e
def ldU (N:Nat) (l:List (Nat×Value)) (o:Oper):Option (Nat×TypeId×Nat×Nat):=
  match GL N l o with
  | none=>none
  | some d=>match o.op with
    | .load T x=>match opU l x with
      | some (.pointer (some ⟨g,off,none⟩))=>some (d,T,g,off)
      | _=>none
    | _=>none
theorem ldv (h:Kn N l a) (hS:Sep w cs) (i:Nat) {d g off:Nat} {T ty:TypeId} {kd:TypeDesc} {L:List Value} {v:Value} (hu:P.underlying T=some kd) (e:ldU N l o=some (d,T,g,off)) (hk:kd.isRow=false) (hi:cs[i]? = some (Ah g ty L)) (hv:L[off]? = some v) (k:∀ a',Kn N ((d,v)::l) a'→wpList P ops Q rest a' w):wpList P ops Q (o::rest) a w:=by
  unfold ldU at e
  cases hd:GL N l o with
  | none=>simp [hd] at e
  | some d'=>
    simp only [hd] at e
    split at e
    · next T' x ho=>
      split at e
      · next g' off' hx=>
        cases e
        exact sw1 h hd (rld h ho (by rw [← CG];exact hx) (ldB hu hk (hS.get i hi:Blk _ _ _ _) hv)) k
      · cases e
    · cases e
def biU (N:Nat) (l:List (Nat×Value)) (o:Oper):Option (Nat×BinOp×TypeId×Operand×Operand×Value×Value):=
  match GL N l o with
  | none=>none
  | some d=>match o.op with
    | .binOp b T x y _=>match opU l x,opU l y with
      | some v,some u=>some (d,b,T,x,y,v,u)
      | _,_=>none
    | _=>none
theorem bv (h:Kn N l a) {d:Nat} {b:BinOp} {T:TypeId} {x y:Operand} {v u z:Value} (e:biU N l o=some (d,b,T,x,y,v,u)) (hf:∀ w,(do eqGuard b T x y v u;binOp b T v u:Sem Value).run P w=.ok z w) (k:∀ a',Kn N ((d,z)::l) a'→wpList P ops Q rest a' w):wpList P ops Q (o::rest) a w:=by
  unfold biU at e
  cases hd:GL N l o with
  | none=>simp [hd] at e
  | some d'=>
    simp only [hd] at e
    split at e
    · next b' T' x' y' ty ho=>
      split at e
      · next v' u' hx hy=>
        cases e
        exact sv1 h hd (BG h ho (by rw [← CG];exact hx) (by rw [← CG];exact hy) hf) k
      · cases e
    · cases e
def apU:List Value→List Value→Option (List Value)
  | [],b=>some b
  | c::r,b=>match apU r b with
    | some s=>some (c::s)
    | none=>none
theorem Ob:∀ {x y z:List Value},apU x y=some z→z=x++y:=by
  intro x
  induction x with
  | nil=>intro y z h;cases h;rfl
  | cons c r ih=>
    intro y z h
    unfold apU at h
    cases e:apU r y with
    | none=>simp [e] at h
    | some s=>
      simp only [e,Option.some.injEq] at h
      subst h
      rw [ih e];rfl
def clU (N:Nat) (l:List (Nat×Value)) (o:Oper):Option (Nat×FuncId×List Value):=
  match GL N l o with
  | none=>none
  | some d=>match o.op with
    | .call { callee:=.value f,args:=xs,.. }=>match opU l f with
      | some (.func (.func fn) first cap)=>match QT l xs.toList with
        | some vs=>match apU vs cap.toList with
          | some v1=>match apU first.toList v1 with
            | some v2=>some (d,fn,v2)
            | none=>none
          | none=>none
        | none=>none
      | _=>none
    | _=>none
theorem Qa {d:Nat} {fn:FuncId} {zs:List Value} (e:clU N l o=some (d,fn,zs)):GL N l o=some d∧∃ (f:Operand) (xs:List Operand) (ts:Array TypeId) (first cap:Array Value) (vs:List Value),o.op=.call { callee:=.value f,args:=xs.toArray,argTypes:=ts }∧opv l f=some (.func (.func fn) first cap)∧xs.map (opv l)=vs.map some∧first++vs.toArray++cap=zs.toArray:=by
  unfold clU at e
  cases hd:GL N l o with
  | none=>simp [hd] at e
  | some d'=>
    simp only [hd] at e
    split at e
    · next f xs ts ho=>
      split at e
      · next fn' first cap hf=>
        split at e
        · next vs hv=>
          split at e
          · next v1 h1=>
            split at e
            · next v2 h2=>
              cases e
              refine ⟨rfl,f,xs.toList,ts,first,cap,vs,by simpa using ho,by rw [← CG];exact hf,QU hv,?_⟩
              have e1:=Ob h1
              have e2:=Ob h2
              subst e1;subst e2
              apply Array.toList_inj.1
              simp
            · cases e
          · cases e
        · cases e
      · cases e
    · cases e
theorem cl (h:Kn N l a) {d:Nat} {fn:FuncId} {vs:List Value} (e:clU N l o=some (d,fn,vs)) (hcf:∀ args w,(callFunc fn args).run P w=.ok (.enter fn args) w) {R:Value→World→Prop} (HC:CallsR P fn vs.toArray w R)
    (k:∀ a' v w',R v w'→Kn N ((d,v)::l) a'→wpList P ops Q rest a' w'):wpList P ops Q (o::rest) a w:=by
  obtain ⟨e0,f,xs,ts,first,cap,us,ho,hf,hv,ha⟩:=Qa e
  obtain ⟨h1,h2,h3,h4⟩:=Gb e0
  exact so (Ab h1) fun K hK=>CS h h2 h3 h4 ho hcf hf hv ha HC fun a' v w' r h'=>hK _ _ (k a' v w' r h')
def stU (l:List (Nat×Value)) (o:Oper):Option (TypeId×Nat×Nat×Value):=
  match o.guard,o.dst with
  | none,none=>match o.op with
    | .store T x y=>match opU l x,opU l y with
      | some (.pointer (some ⟨g,off,none⟩)),some u=>some (T,g,off,u)
      | _,_=>none
    | _=>none
  | _,_=>none
theorem MR {T:TypeId} {g off:Nat} {u:Value} (e:stU l o=some (T,g,off,u)):o.guard=none∧o.dst=none∧∃ x y,o.op=.store T x y∧opv l x=some (.pointer (some ⟨g,off,none⟩))∧opv l y=some u:=by
  unfold stU at e
  split at e
  · next h1 h2=>
    split at e
    · next T' x y ho=>
      split at e
      · next g' off' u' hx hy=>
        cases e
        exact ⟨h1,h2,x,y,ho,by rw [← CG];exact hx,by rw [← CG];exact hy⟩
      · cases e
    · cases e
  · cases e
theorem Uf {α:Type} (L:List α) (i:Nat) (v:α) (h:i<L.length):splice L i [v]=L.set i v:=by
  unfold splice
  rw [List.set_eq_take_append_cons_drop,if_pos h];rfl
theorem st1 (h:Kn N l a) (hS:Sep w cs) (i:Nat) {T ty:TypeId} {g off:Nat} {u:Value} {L L':List Value} (e:stU l o=some (T,g,off,u)) (hi:cs[i]? = some (Ah g ty L)) (hn:(P.info? T).map (·.size)=some 1) (hu:u.cells=#[u]) (h1:u.oneCell'=true) (hL:MN L off u=some L') (hcs:MN cs i (Ah g ty L')=some cs')
    (k:∀ a' w',Kn N l a'→Sep w' cs'→Turns (fun k=>k=g) w w'→wpList P ops Q rest a' w'):wpList P ops Q (o::rest) a w:=by
  obtain ⟨h2,h3,x,y,ho,hx,hy⟩:=MR e
  obtain ⟨eL,hlt⟩:=KI hL
  obtain ⟨ec,_⟩:=KI hcs
  refine so (Ab h2) fun K hK=>CQ h h3 ho hS i hi hx hy [u] (by rw [hu]) hn (by simp [h1]) (Nat.succ_le_of_lt hlt) (L':=L') ?_ ec.symm fun a' w' h' s' t=>hK _ _ (k a' w' h' s' t)
  rw [eL]
  exact Uf L off u hlt
theorem stM (h:Kn N l a) (hS:Sep w cs) (i:Nat) {T ty:TypeId} {g off:Nat} {u:Value} {L L' vs:List Value} (e:stU l o=some (T,g,off,u)) (hi:cs[i]? = some (Ah g ty L)) (hu:u.cells=vs.toArray) (hn:(P.info? T).map (·.size)=some vs.length) (h1:vs.all (·.oneCell')=true) (hlt:off+vs.length≤L.length) (hL:splice L off vs=L') (hcs:MN cs i (Ah g ty L')=some cs')
    (k:∀ a' w',Kn N l a'→Sep w' cs'→Turns (fun k=>k=g) w w'→wpList P ops Q rest a' w'):wpList P ops Q (o::rest) a w:=by
  obtain ⟨h2,h3,x,y,ho,hx,hy⟩:=MR e
  obtain ⟨ec,_⟩:=KI hcs
  exact so (Ab h2) fun K hK=>CQ h h3 ho hS i hi hx hy vs hu hn h1 hlt hL ec.symm fun a' w' h' s' t=>hK _ _ (k a' w' h' s' t)
theorem stA (h:Kn N l a) (hS:Sep w cs) (i:Nat) {T ty:TypeId} {g off:Nat} {u:Value} {L vs:List Value} (e:stU l o=some (T,g,off,u)) (hi:cs[i]? = some (Ah g ty L)) (hu:u.cells=vs.toArray) (hn:(P.info? T).map (·.size)=some vs.length) (h1:vs.all (·.oneCell')=true) (h0:off=0) (hl:vs.length=L.length) (hcs:MN cs i (Ah g ty vs)=some cs')
    (k:∀ a' w',Kn N l a'→Sep w' cs'→Turns (fun k=>k=g) w w'→wpList P ops Q rest a' w'):wpList P ops Q (o::rest) a w:=by
  subst h0
  refine stM h hS i e hi hu hn h1 ω (L':=vs) ?_ hcs k
  unfold splice
  rw [List.take_zero,List.drop_of_length_le ω];simp
def SO (N:Nat):Nat→List (Nat×Value)→List Oper→Option (List (Nat×Value)×List Oper)
  | 0,l,os=>some (l,os)
  | _+1,_,[]=>none
  | n+1,l,o::os=>match mvU N l o with
    | none=>none
    | some y=>SO N n (y::l) os
theorem mvs:∀ (n:Nat) {l l':List (Nat×Value)} {os rest:List Oper} {a:Act},Kn N l a→SO N n l os=some (l',rest)→(∀ a',Kn N l' a'→wpList P ops Q rest a' w)→wpList P ops Q os a w
  | 0,_,_,_,_,_,h,e,k=>by cases e;exact k _ h
  | _+1,_,_,[],_,_,_,e,_=>by cases e
  | n+1,l,l',o::os,rest,a,h,e,k=>by
    unfold SO at e
    cases hm:mvU N l o with
    | none=>simp [hm] at e
    | some y=>
      simp only [hm] at e
      exact mv h hm fun a' h'=>mvs n h' e k
variable {md:Region.Mode} {S:World→Prop} {fuel:Nat} {listed:Array Bool}
theorem tv1 (hS:S w) (h:Kn N l a) (i:Nat) (hi:ops[i]? = some o) {d:Nat} (e:GL N l o=some d) {v:Value} (hy:∀ w1,S w1→(execOp a.eval o).run P w1=.ok (.value v) w1)
    (k:∀ a',Kn N ((d,v)::l) a'→wpAnyH P md ops Q S fuel (listed.setIfInBounds i true) a' w)
    (hs:Region.noSelect ops=true:=by kernel_rfl) (hfr:Region.free md ops listed i=true:=by kernel_rfl) (hr:(Region.ready md ops listed).contains i=true:=by kernel_rfl) (hQ:∀ c a w v,Q (.panic c) (a.put o.dst v) w→Q (.panic c) a w:=by exact fun _ _ _ _ h=>h):wpAnyH P md ops Q S (fuel+1) listed a w:=by
  obtain ⟨h1,h2,h3,h4⟩:=Gb e
  exact tv hS h i hi h2 h3 h4 hs hfr hr hQ (Ab h1) hy k
theorem rC {fn:Func} {R:Value→World→Prop} (hK:Kn N l a) (hS:Sep w cs) (i:Nat) {c g:Nat} {T e:TypeId} {L:List Value} {k:TypeDesc} (hu:P.underlying T=some k) (h:fn.results=#[.cell c T]) (hc:opU l (.tmp c)=some (.pointer (some ⟨g,0,none⟩))) (hi:cs[i]? = some (Ah g e L)) (hk:k.isRow=true) (kk:R (.agg L.toArray) w) (hn:(P.info? T).map (·.size)=some L.length:=by kernel_rfl):bodyPost P fn (fun e w'=>∃ v,e=.returned v∧R v w') .ret a w:=
  Sr (Ub hK h (by rw [← CG];exact hc) (hS.get i hi:Blk _ _ _ _) hu hk hn) hK.defs kk
theorem rCt {fn:Func} {R:Value→World→Prop} (hK:Kn N l a) (hS:Sep w cs) (i:Nat) {c u g:Nat} {T e:TypeId} {L:List Value} {k:TypeDesc} {v:Value} (hu:P.underlying T=some k) (h:fn.results=#[.cell c T,.tmp u]) (hc:opU l (.tmp c)=some (.pointer (some ⟨g,0,none⟩))) (hv:opU l (.tmp u)=some v) (hi:cs[i]? = some (Ah g e L)) (hk:k.isRow=true) (kk:R (.tuple #[.agg L.toArray,v]) w) (hn:(P.info? T).map (·.size)=some L.length:=by kernel_rfl):bodyPost P fn (fun e w'=>∃ v,e=.returned v∧R v w') .ret a w:=
  Sr (Tw hK h (by rw [← CG];exact hc) (by rw [← CG];exact hv) (hS.get i hi:Blk _ _ _ _) hu hk hn) hK.defs kk
theorem wcF {cd:Operand} {x y:Code} {t:Bool} (h:Kn N l a) (hx:opU l cd=some (.bool t)) (ht:t=false) (k:y.wp P Q a w):(Code.cond cd x y).wp P Q a w:=KV (b:=false) h (by rw [← CG];exact hx) ht (by simpa using k)
theorem wcT {cd:Operand} {x y:Code} {t:Bool} (h:Kn N l a) (hx:opU l cd=some (.bool t)) (ht:t=true) (k:x.wp P Q a w):(Code.cond cd x y).wp P Q a w:=KV (b:=true) h (by rw [← CG];exact hx) ht (by simpa using k)
def Ky (l:List (Nat×Value)):List (Nat×Operand)→Option (List (Nat×Value))
  | []=>some []
  | (i,x)::r=>match opU l x,Ky l r with
    | some v,some vs=>some ((i,v)::vs)
    | _,_=>none
theorem NG {l:List (Nat×Value)}:∀ {xs:List (Nat×Operand)} {vs:List (Nat×Value)},Ky l xs=some vs→xs.map (fun p=>(p.1,opv l p.2))=vs.map (fun p=>(p.1,some p.2)):=by
  intro xs
  induction xs with
  | nil=>intro vs h;cases h;rfl
  | cons y r ih=>
    obtain ⟨i,x⟩:=y
    intro vs h
    unfold Ky at h
    cases hx:opU l x with
    | none=>simp [hx] at h
    | some v=>
      cases hr:Ky l r with
      | none=>simp [hx,hr] at h
      | some us=>
        simp only [hx,hr,Option.some.injEq] at h
        subst h
        rw [List.map_cons,List.map_cons,ih hr,← CG,hx]
def buU (N:Nat) (l:List (Nat×Value)) (o:Oper):Option (Nat×TypeId×List (Nat×Value)):=
  match GL N l o with
  | none=>none
  | some d=>match o.op with
    | .build T xs=>match Ky l xs.toList with
      | some vs=>some (d,T,vs)
      | none=>none
    | _=>none
theorem bu (h:Kn N l a) {d:Nat} {T:TypeId} {vs:List (Nat×Value)} {v:Value} (e:buU N l o=some (d,T,vs)) (hv:∀ w,(Instr.build T vs.toArray).run P w=.ok v w) (k:∀ a',Kn N ((d,v)::l) a'→wpList P ops Q rest a' w):wpList P ops Q (o::rest) a w:=by
  unfold buU at e
  cases hd:GL N l o with
  | none=>simp [hd] at e
  | some d'=>
    simp only [hd] at e
    split at e
    · next T' xs ho=>
      split at e
      · next vs' hp=>
        cases e
        exact sv1 h hd (CP h (xs:=xs.toList) (by simpa using ho) (NG hp) hv) k
      · cases e
    · cases e
theorem bC (b:Bool):b=true∨b=false:=Bool.eq_false_or_eq_true b
theorem dT {p:Prop} [Decidable p] (h:decide p=true):p:=of_decide_eq_true h
theorem dF {p:Prop} [Decidable p] (h:decide p=false):¬ p:=of_decide_eq_false h
end
end
section
theorem CA (g off:Nat) (w:World):(Instr.fieldAt 30 (.pointer (some ⟨g,off,none⟩)) 0).run Tryz.prog w=.ok (.pointer (some ⟨g,off+0,none⟩)) w:=rfl
theorem An (g off:Nat) (w:World):(Instr.fieldAt 30 (.pointer (some ⟨g,off,none⟩)) 1).run Tryz.prog w=.ok (.pointer (some ⟨g,off+1,none⟩)) w:=rfl
theorem AS (g off:Nat) (w:World):(Instr.fieldAt 30 (.pointer (some ⟨g,off,none⟩)) 2).run Tryz.prog w=.ok (.pointer (some ⟨g,off+2,none⟩)) w:=rfl
theorem BK (g off:Nat) (w:World):(Instr.fieldAt 30 (.pointer (some ⟨g,off,none⟩)) 3).run Tryz.prog w=.ok (.pointer (some ⟨g,off+3,none⟩)) w:=rfl
theorem BZ (g off:Nat) (w:World):(Instr.fieldAt 30 (.pointer (some ⟨g,off,none⟩)) 4).run Tryz.prog w=.ok (.pointer (some ⟨g,off+4,none⟩)) w:=rfl
theorem Bj (g off:Nat) (w:World):(Instr.fieldAt 30 (.pointer (some ⟨g,off,none⟩)) 5).run Tryz.prog w=.ok (.pointer (some ⟨g,off+5,none⟩)) w:=rfl
theorem Bz (g off:Nat) (w:World):(Instr.fieldAt 30 (.pointer (some ⟨g,off,none⟩)) 6).run Tryz.prog w=.ok (.pointer (some ⟨g,off+6,none⟩)) w:=rfl
theorem AO (g off:Nat) (w:World):(Instr.fieldAt 30 (.pointer (some ⟨g,off,none⟩)) 7).run Tryz.prog w=.ok (.pointer (some ⟨g,off+7,none⟩)) w:=rfl
theorem CW (g off:Nat) (w:World):(Instr.fieldAt 37 (.pointer (some ⟨g,off,none⟩)) 0).run Tryz.prog w=.ok (.pointer (some ⟨g,off+0,none⟩)) w:=rfl
theorem Fv (g off:Nat) (w:World):(Instr.fieldAt 37 (.pointer (some ⟨g,off,none⟩)) 1).run Tryz.prog w=.ok (.pointer (some ⟨g,off+1,none⟩)) w:=rfl
theorem DP (g off:Nat) (w:World):(Instr.fieldAt 37 (.pointer (some ⟨g,off,none⟩)) 2).run Tryz.prog w=.ok (.pointer (some ⟨g,off+2,none⟩)) w:=rfl
theorem GX (g off:Nat) (w:World):(Instr.fieldAt 37 (.pointer (some ⟨g,off,none⟩)) 3).run Tryz.prog w=.ok (.pointer (some ⟨g,off+3,none⟩)) w:=rfl
theorem GY (g off:Nat) (w:World):(Instr.fieldAt 37 (.pointer (some ⟨g,off,none⟩)) 4).run Tryz.prog w=.ok (.pointer (some ⟨g,off+4,none⟩)) w:=rfl
theorem BS (g off:Nat) (w:World):(Instr.fieldAt 44 (.pointer (some ⟨g,off,none⟩)) 0).run Tryz.prog w=.ok (.pointer (some ⟨g,off+0,none⟩)) w:=rfl
theorem DI (g off:Nat) (w:World):(Instr.fieldAt 44 (.pointer (some ⟨g,off,none⟩)) 1).run Tryz.prog w=.ok (.pointer (some ⟨g,off+1,none⟩)) w:=rfl
theorem GM (g off:Nat) (w:World):(Instr.fieldAt 44 (.pointer (some ⟨g,off,none⟩)) 2).run Tryz.prog w=.ok (.pointer (some ⟨g,off+9,none⟩)) w:=rfl
theorem CE (g off:Nat) (w:World):(Instr.fieldAt 114 (.pointer (some ⟨g,off,none⟩)) 0).run Tryz.prog w=.ok (.pointer (some ⟨g,off+0,none⟩)) w:=rfl
theorem Co (g off:Nat) (w:World):(Instr.fieldAt 114 (.pointer (some ⟨g,off,none⟩)) 1).run Tryz.prog w=.ok (.pointer (some ⟨g,off+1,none⟩)) w:=rfl
theorem Gd (g off:Nat) (w:World):(Instr.fieldAt 114 (.pointer (some ⟨g,off,none⟩)) 2).run Tryz.prog w=.ok (.pointer (some ⟨g,off+2,none⟩)) w:=rfl
theorem Aj (g off:Nat) (w:World):(Instr.fieldAt 51 (.pointer (some ⟨g,off,none⟩)) 0).run Tryz.prog w=.ok (.pointer (some ⟨g,off+0,none⟩)) w:=rfl
theorem AD (g off:Nat) (w:World):(Instr.fieldAt 51 (.pointer (some ⟨g,off,none⟩)) 1).run Tryz.prog w=.ok (.pointer (some ⟨g,off+1,none⟩)) w:=rfl
theorem AK (g off:Nat) (w:World):(Instr.fieldAt 51 (.pointer (some ⟨g,off,none⟩)) 2).run Tryz.prog w=.ok (.pointer (some ⟨g,off+2,none⟩)) w:=rfl
theorem AE (g off:Nat) (w:World):(Instr.fieldAt 88 (.pointer (some ⟨g,off,none⟩)) 0).run Tryz.prog w=.ok (.pointer (some ⟨g,off+0,none⟩)) w:=rfl
theorem Bt (g off:Nat) (w:World):(Instr.fieldAt 88 (.pointer (some ⟨g,off,none⟩)) 1).run Tryz.prog w=.ok (.pointer (some ⟨g,off+1,none⟩)) w:=rfl
theorem Bd (g off:Nat) (w:World):(Instr.fieldAt 88 (.pointer (some ⟨g,off,none⟩)) 2).run Tryz.prog w=.ok (.pointer (some ⟨g,off+2,none⟩)) w:=rfl
theorem Dy (g off:Nat) (w:World):(Instr.fieldAt 93 (.pointer (some ⟨g,off,none⟩)) 0).run Tryz.prog w=.ok (.pointer (some ⟨g,off+0,none⟩)) w:=rfl
theorem Ex (g off:Nat) (w:World):(Instr.fieldAt 93 (.pointer (some ⟨g,off,none⟩)) 1).run Tryz.prog w=.ok (.pointer (some ⟨g,off+1,none⟩)) w:=rfl
theorem Gw (g off:Nat) (w:World):(Instr.fieldAt 93 (.pointer (some ⟨g,off,none⟩)) 2).run Tryz.prog w=.ok (.pointer (some ⟨g,off+2,none⟩)) w:=rfl
theorem DD (g off:Nat) (w:World):(Instr.fieldAt 65 (.pointer (some ⟨g,off,none⟩)) 0).run Tryz.prog w=.ok (.pointer (some ⟨g,off+0,none⟩)) w:=rfl
theorem BQ (g off:Nat) (w:World):(Instr.fieldAt 65 (.pointer (some ⟨g,off,none⟩)) 1).run Tryz.prog w=.ok (.pointer (some ⟨g,off+1,none⟩)) w:=rfl
theorem Ay (g off:Nat) (w:World):(Instr.fieldAt 97 (.pointer (some ⟨g,off,none⟩)) 0).run Tryz.prog w=.ok (.pointer (some ⟨g,off+0,none⟩)) w:=rfl
theorem Bk (g off:Nat) (w:World):(Instr.fieldAt 97 (.pointer (some ⟨g,off,none⟩)) 1).run Tryz.prog w=.ok (.pointer (some ⟨g,off+1,none⟩)) w:=rfl
theorem Bl (g off:Nat) (w:World):(Instr.fieldAt 97 (.pointer (some ⟨g,off,none⟩)) 2).run Tryz.prog w=.ok (.pointer (some ⟨g,off+2,none⟩)) w:=rfl
theorem AF (g off:Nat) (w:World):(Instr.fieldAt 97 (.pointer (some ⟨g,off,none⟩)) 3).run Tryz.prog w=.ok (.pointer (some ⟨g,off+3,none⟩)) w:=rfl
theorem DW (args:Array Value) (w:World):(callFunc 15 args).run Tryz.prog w=.ok (.enter 15 args) w:=by
 have h:=Tryz.func15
 go_simp
theorem GK (args:Array Value) (w:World):(callFunc 12 args).run Tryz.prog w=.ok (.enter 12 args) w:=by
 have h:=Tryz.func12
 go_simp
theorem Gu (args:Array Value) (w:World):(callFunc 11 args).run Tryz.prog w=.ok (.enter 11 args) w:=by
 have h:=Tryz.func11
 go_simp
theorem Gv (args:Array Value) (w:World):(callFunc 68 args).run Tryz.prog w=.ok (.enter 68 args) w:=by
 have h:=Tryz.func68
 go_simp
theorem Bf (args:Array Value) (w:World):(callFunc 64 args).run Tryz.prog w=.ok (.enter 64 args) w:=by
 have h:=Tryz.func64
 go_simp
theorem GQ (args:Array Value) (w:World):(callFunc 29 args).run Tryz.prog w=.ok (.enter 29 args) w:=by
 have h:=Tryz.func29
 go_simp
theorem EE (args:Array Value) (w:World):(callFunc 18 args).run Tryz.prog w=.ok (.enter 18 args) w:=by
 have h:=Tryz.func18
 go_simp
theorem FX (args:Array Value) (w:World):(callFunc 26 args).run Tryz.prog w=.ok (.enter 26 args) w:=by
 have h:=Tryz.func26
 go_simp
theorem Bi (args:Array Value) (w:World):(callFunc 35 args).run Tryz.prog w=.ok (.enter 35 args) w:=by
 have h:=Tryz.func35
 go_simp
theorem Bp (args:Array Value) (w:World):(callFunc 45 args).run Tryz.prog w=.ok (.enter 45 args) w:=by
 have h:=Tryz.func45
 go_simp
theorem FP (args:Array Value) (w:World):(callFunc 44 args).run Tryz.prog w=.ok (.enter 44 args) w:=by
 have h:=Tryz.func44
 go_simp
theorem AX (args:Array Value) (w:World):(callFunc 22 args).run Tryz.prog w=.ok (.enter 22 args) w:=by
 have h:=Tryz.func22
 go_simp
theorem AG (args:Array Value) (w:World):(callFunc 36 args).run Tryz.prog w=.ok (.enter 36 args) w:=by
 have h:=Tryz.func36
 go_simp
theorem En (args:Array Value) (w:World):(callFunc 65 args).run Tryz.prog w=.ok (.enter 65 args) w:=by
 have h:=Tryz.func65
 go_simp
theorem Cy (args:Array Value) (w:World):(callFunc 66 args).run Tryz.prog w=.ok (.enter 66 args) w:=by
 have h:=Tryz.func66
 go_simp
theorem Cn (args:Array Value) (w:World):(callFunc 34 args).run Tryz.prog w=.ok (.enter 34 args) w:=by
 have h:=Tryz.func34
 go_simp
theorem FY (args:Array Value) (w:World):(callFunc 40 args).run Tryz.prog w=.ok (.enter 40 args) w:=by
 have h:=Tryz.func40
 go_simp
theorem Eo (args:Array Value) (w:World):(callFunc 38 args).run Tryz.prog w=.ok (.enter 38 args) w:=by
 have h:=Tryz.func38
 go_simp
theorem FZ (args:Array Value) (w:World):(callFunc 33 args).run Tryz.prog w=.ok (.enter 33 args) w:=by
 have h:=Tryz.func33
 go_simp
theorem Bs (args:Array Value) (w:World):(callFunc 37 args).run Tryz.prog w=.ok (.enter 37 args) w:=by
 have h:=Tryz.func37
 go_simp
theorem FJ (args:Array Value) (w:World):(callFunc 42 args).run Tryz.prog w=.ok (.enter 42 args) w:=by
 have h:=Tryz.func42
 go_simp
theorem FQ (args:Array Value) (w:World):(callFunc 39 args).run Tryz.prog w=.ok (.enter 39 args) w:=by
 have h:=Tryz.func39
 go_simp
theorem AW (args:Array Value) (w:World):(callFunc 41 args).run Tryz.prog w=.ok (.enter 41 args) w:=by
 have h:=Tryz.func41
 go_simp
theorem DY (args:Array Value) (w:World):(callFunc 43 args).run Tryz.prog w=.ok (.enter 43 args) w:=by
 have h:=Tryz.func43
 go_simp
theorem HD (args:Array Value) (w:World):(callFunc 25 args).run Tryz.prog w=.ok (.enter 25 args) w:=by
 have h:=Tryz.func25
 go_simp
theorem DU (args:Array Value) (w:World):(callFunc 16 args).run Tryz.prog w=.ok (.enter 16 args) w:=by
 have h:=Tryz.func16
 go_simp
theorem EF (args:Array Value) (w:World):(callFunc 21 args).run Tryz.prog w=.ok (.enter 21 args) w:=by
 have h:=Tryz.func21
 go_simp
theorem Ae (args:Array Value) (w:World):(callFunc 32 args).run Tryz.prog w=.ok (.enter 32 args) w:=by
 have h:=Tryz.func32
 go_simp
theorem EG (args:Array Value) (w:World):(callFunc 67 args).run Tryz.prog w=.ok (.enter 67 args) w:=by
 have h:=Tryz.func67
 go_simp
theorem BU (args:Array Value) (w:World):(callFunc 92 args).run Tryz.prog w=.ok (.enter 92 args) w:=by
 have h:=Tryz.func92
 go_simp
theorem JE (args:Array Value) (w:World):(callFunc 78 args).run Tryz.prog w=.ok (.enter 78 args) w:=by
 have h:=Tryz.func78
 go_simp
theorem Cj (args:Array Value) (w:World):(callFunc 85 args).run Tryz.prog w=.ok (.enter 85 args) w:=by
 have h:=Tryz.func85
 go_simp
theorem Cd (args:Array Value) (w:World):(callFunc 76 args).run Tryz.prog w=.ok (.enter 76 args) w:=by
 have h:=Tryz.func76
 go_simp
theorem Ce (args:Array Value) (w:World):(callFunc 14 args).run Tryz.prog w=.ok (.enter 14 args) w:=by
 have h:=Tryz.func14
 go_simp
theorem Ja (args:Array Value) (w:World):(callFunc 20 args).run Tryz.prog w=.ok (.enter 20 args) w:=by
 have h:=Tryz.func20
 go_simp
theorem HH (args:Array Value) (w:World):(callFunc 48 args).run Tryz.prog w=.ok (.enter 48 args) w:=by
 have h:=Tryz.func48
 go_simp
theorem Ic (args:Array Value) (w:World):(callFunc 55 args).run Tryz.prog w=.ok (.enter 55 args) w:=by
 have h:=Tryz.func55
 go_simp
theorem Id (args:Array Value) (w:World):(callFunc 58 args).run Tryz.prog w=.ok (.enter 58 args) w:=by
 have h:=Tryz.func58
 go_simp
theorem HJ (args:Array Value) (w:World):(callFunc 53 args).run Tryz.prog w=.ok (.enter 53 args) w:=by
 have h:=Tryz.func53
 go_simp
theorem Ie (args:Array Value) (w:World):(callFunc 47 args).run Tryz.prog w=.ok (.enter 47 args) w:=by
 have h:=Tryz.func47
 go_simp
theorem If (args:Array Value) (w:World):(callFunc 49 args).run Tryz.prog w=.ok (.enter 49 args) w:=by
 have h:=Tryz.func49
 go_simp
theorem GR (args:Array Value) (w:World):(callFunc 57 args).run Tryz.prog w=.ok (.enter 57 args) w:=by
 have h:=Tryz.func57
 go_simp
theorem HL (args:Array Value) (w:World):(callFunc 54 args).run Tryz.prog w=.ok (.enter 54 args) w:=by
 have h:=Tryz.func54
 go_simp
theorem Ig (args:Array Value) (w:World):(callFunc 59 args).run Tryz.prog w=.ok (.enter 59 args) w:=by
 have h:=Tryz.func59
 go_simp
theorem Ih (args:Array Value) (w:World):(callFunc 52 args).run Tryz.prog w=.ok (.enter 52 args) w:=by
 have h:=Tryz.func52
 go_simp
theorem HQ (args:Array Value) (w:World):(callFunc 51 args).run Tryz.prog w=.ok (.enter 51 args) w:=by
 have h:=Tryz.func51
 go_simp
theorem GS (args:Array Value) (w:World):(callFunc 56 args).run Tryz.prog w=.ok (.enter 56 args) w:=by
 have h:=Tryz.func56
 go_simp
theorem HU (args:Array Value) (w:World):(callFunc 50 args).run Tryz.prog w=.ok (.enter 50 args) w:=by
 have h:=Tryz.func50
 go_simp
theorem BP (args:Array Value) (w:World):(callFunc 73 args).run Tryz.prog w=.ok (.enter 73 args) w:=by
 have h:=Tryz.func73
 go_simp
theorem CT (args:Array Value) (w:World):(callFunc 72 args).run Tryz.prog w=.ok (.enter 72 args) w:=by
 have h:=Tryz.func72
 go_simp
theorem Fq (args:Array Value) (w:World):(callFunc 28 args).run Tryz.prog w=.ok (.enter 28 args) w:=by
 have h:=Tryz.func28
 go_simp
theorem AZ (args:Array Value) (w:World):(callFunc 69 args).run Tryz.prog w=.ok (.enter 69 args) w:=by
 have h:=Tryz.func69
 go_simp
theorem Dn (args:Array Value) (w:World):(callFunc 70 args).run Tryz.prog w=.ok (.enter 70 args) w:=by
 have h:=Tryz.func70
 go_simp
theorem BD (args:Array Value) (w:World):(callFunc 71 args).run Tryz.prog w=.ok (.enter 71 args) w:=by
 have h:=Tryz.func71
 go_simp
theorem Cl (args:Array Value) (w:World):(callFunc 75 args).run Tryz.prog w=.ok (.enter 75 args) w:=by
 have h:=Tryz.func75
 go_simp
theorem CU (args:Array Value) (w:World):(callFunc 84 args).run Tryz.prog w=.ok (.enter 84 args) w:=by
 have h:=Tryz.func84
 go_simp
theorem IA (args:Array Value) (w:World):(callFunc 24 args).run Tryz.prog w=.ok (.enter 24 args) w:=by
 have h:=Tryz.func24
 go_simp
theorem Fr (args:Array Value) (w:World):(callFunc 77 args).run Tryz.prog w=.ok (.enter 77 args) w:=by
 have h:=Tryz.func77
 go_simp
theorem By (args:Array Value) (w:World):(callFunc 79 args).run Tryz.prog w=.ok (.enter 79 args) w:=by
 have h:=Tryz.func79
 go_simp
theorem Fg (args:Array Value) (w:World):(callFunc 46 args).run Tryz.prog w=.ok (.enter 46 args) w:=by
 have h:=Tryz.func46
 go_simp
theorem Dg (args:Array Value) (w:World):(callFunc 80 args).run Tryz.prog w=.ok (.enter 80 args) w:=by
 have h:=Tryz.func80
 go_simp
theorem Do (args:Array Value) (w:World):(callFunc 74 args).run Tryz.prog w=.ok (.enter 74 args) w:=by
 have h:=Tryz.func74
 go_simp
theorem Ep (args:Array Value) (w:World):(callFunc 91 args).run Tryz.prog w=.ok (.enter 91 args) w:=by
 have h:=Tryz.func91
 go_simp
theorem IB (args:Array Value) (w:World):(callFunc 86 args).run Tryz.prog w=.ok (.enter 86 args) w:=by
 have h:=Tryz.func86
 go_simp
end
section
def SmF (F:FsM):Prop:=F.N.length≤1000∧F.E.length≤1000∧F.O.length≤1000
def CZ (x:NodeM):List Value:=[.bool x.dir,σ x.data,ν x.links]
def CM (x:EntM):List Value:=[ν (x.dn:Int),.string x.nm,ν (x.nd:Int)]
def CI (x:OpM):List Value:=[ν x.cl,ν x.fd,ν (x.nd:Int)]
theorem Bg (x:NodeM):(CZ x).length=3:=rfl
theorem Dp (x:EntM):(CM x).length=3:=rfl
theorem DB (x:OpM):(CI x).length=3:=rfl
abbrev dP (df:Nat) (na:Option Addr) (nc:Nat) (ea:Option Addr) (ec:Nat) (oa:Option Addr) (oc:Nat) (F:FsM):List Ch:=[Ah df 51 [.slice na F.N.length nc,.slice ea F.E.length ec,.slice oa F.O.length oc],Ak 0 88 3 na F.N.length nc (F.N.flatMap CZ),Ak 0 114 3 ea F.E.length ec (F.E.flatMap CM),Ak 0 93 3 oa F.O.length oc (F.O.flatMap CI)]
def MB (E:List EntM) (d:Nat) (s:ByteArray):Int:=match Ai E d s with | some m=>(m:Int) | none=>-1
def MC (O:List OpM) (c fd:Int):Int:=match Az O c fd with | some m=>(m:Int) | none=>-1
theorem Km {E:List EntM} {d:Nat} {s:ByteArray} {m:Nat} (h:Ai E d s=some m):MB E d s=(m:Int):=by unfold MB;rw [h]
theorem Kl {E:List EntM} {d:Nat} {s:ByteArray} (h:Ai E d s=none):MB E d s=-1:=by unfold MB;rw [h]
theorem Kp {O:List OpM} {c fd:Int} {m:Nat} (h:Az O c fd=some m):MC O c fd=(m:Int):=by unfold MC;rw [h]
theorem Ko {O:List OpM} {c fd:Int} (h:Az O c fd=none):MC O c fd=-1:=by unfold MC;rw [h]
theorem AI {α:Type} {x:Option α} (h:x.isSome=false):x=none:=by cases x with | none=>rfl | some a=>cases h
theorem Ga {α:Type} {L:List α} {i:Nat} (h:i<L.length) (z:α):L.drop i=L.getD i z::L.drop (i+1):=by
 rw [List.drop_eq_getElem_cons h,List.getD_eq_getElem?_getD,List.getElem?_eq_getElem h];rfl
theorem De {α:Type} {L:List α} {i:Nat} (h:i<L.length) (z:α):L.take (i+1)=L.take i++[L.getD i z]:=by
 rw [List.take_succ_eq_append_getElem h,List.getD_eq_getElem?_getD,List.getElem?_eq_getElem h];rfl
theorem Pi {E:List EntM} {d i:Nat} {s:ByteArray} (h:E.length≤i):Ai (E.drop i) d s=none:=by
 rw [List.drop_eq_nil_of_le h];rfl
theorem Pj {E:List EntM} {d i:Nat} {s:ByteArray} (hi:i<E.length) (h:((E.getD i AU).dn:Int)=(d:Int)∧(E.getD i AU).nm=s):Ai (E.drop i) d s=some (E.getD i AU).nd:=by
 unfold Ai
 rw [Ga hi AU,List.find?_cons,decide_eq_true (show (E.getD i AU).dn=d∧(E.getD i AU).nm=s from ⟨ω,h.2⟩)];rfl
theorem QJ {E:List EntM} {d i:Nat} {s:ByteArray} (hl:Ai E d s=Ai (E.drop i) d s) (hi:i<E.length) (h:¬ (((E.getD i AU).dn:Int)=(d:Int))∨¬ ((E.getD i AU).nm=s)):Ai E d s=Ai (E.drop (i+1)) d s:=by
 rw [hl];unfold Ai
 rw [Ga hi AU,List.find?_cons,decide_eq_false (show ¬ ((E.getD i AU).dn=d∧(E.getD i AU).nm=s) from fun q=>h.elim (fun z=>z ω) (fun z=>z q.2))]
theorem Pm {O:List OpM} {i:Nat} {c fd:Int} (h:O.length≤i):Az (O.drop i) c fd=none:=by
 rw [List.drop_eq_nil_of_le h];rfl
theorem Pn {O:List OpM} {i:Nat} {c fd:Int} (hi:i<O.length) (h:(O.getD i BN).cl=c∧(O.getD i BN).fd=fd):Az (O.drop i) c fd=some (O.getD i BN).nd:=by
 unfold Az
 rw [Ga hi BN,List.find?_cons,decide_eq_true h];rfl
theorem QK {O:List OpM} {i:Nat} {c fd:Int} (hl:Az O c fd=Az (O.drop i) c fd) (hi:i<O.length) (h:¬ ((O.getD i BN).cl=c)∨¬ ((O.getD i BN).fd=fd)):Az O c fd=Az (O.drop (i+1)) c fd:=by
 rw [hl];unfold Az
 rw [Ga hi BN,List.find?_cons,decide_eq_false (show ¬ ((O.getD i BN).cl=c∧(O.getD i BN).fd=fd) from fun q=>h.elim (fun z=>z q.1) (fun z=>z q.2))]
theorem Ll (E:List EntM) (d:Nat) {i:Nat} (hi:i<E.length):BH (E.take (i+1)) d=if ((E.getD i AU).dn:Int)=(d:Int) then BH (E.take i) d+1 else BH (E.take i) d:=by
 unfold BH
 rw [De hi AU,List.filter_append,List.length_append,List.filter_cons]
 by_cases h:(E.getD i AU).dn=d
 ·rw [if_pos (decide_eq_true h),if_pos ω];rfl
 ·rw [if_neg (by rw [decide_eq_true_eq];exact h),if_neg ω];rfl
theorem RC (E:List EntM) (d:Nat):BH E d≤E.length:=List.length_filter_le _ _
theorem ENd:ElemT Tryz.prog 47 88 3 32:=Lp υ47 (z:=.agg #[.bool false,.string ⟨#[]⟩,ν 0]) κ rfl ω
theorem EEn:ElemT Tryz.prog 48 114 3 32:=Lp υ48 (z:=.agg #[ν 0,.string ⟨#[]⟩,ν 0]) κ rfl ω
theorem EOp:ElemT Tryz.prog 49 93 3 24:=Lp υ49 (z:=.agg #[ν 0,ν 0,ν 0]) κ rfl ω
theorem ESt:ElemT Tryz.prog 33 9 1 16:=Lp υ33 (z:=.string ⟨#[]⟩) κ rfl ω
theorem MD {w:World} {df:Nat} {na ea oa:Option Addr} {nc ec oc:Nat} {F:FsM} {R:List Ch} {d:Nat} {s:ByteArray} (hS0:Sep w ((dP df na nc ea ec oa oc F)++R)) (hz:SmF F) :
  CallsR Tryz.prog 45 #[π df,ν (d:Int),.string s] w (fun v w'=>v=ν (MB F.E d s)∧Sep w' ((dP df na nc ea ec oa oc F)++R)):=by
 have hS:=Sep.tail_many (xs:=dP df na nc ea ec oa oc F) hS0;clear hS0
 have hz0:=hz;obtain ⟨hz1,hz2,hz3⟩:F.N.length≤1000∧F.E.length≤1000∧F.O.length≤1000:=hz
 refine AB Tryz.func45 rfl (N:=47) Tryz.ntmps45 (by show 3≤47;decide) [(0,π df),(1,ν (d:Int)),(2,.string s)] rfl fun _ h1=>sqr fun _ hK3=>mv h1 rfl fun _ h4=>wpList_nil<|hK3 _ _<|sq fun _ hK6=>sqr fun _ hK7=>mv h4 rfl fun _ h8=>wpList_nil<|hK7 _ _<|wp_block ?_
 refine DC (fun (i:Nat) a' w'=>Kn 47 [(7,ν (i:Int)),(6,ν 0),(0,π df),(1,ν (d:Int)),(2,.string s)] a'∧Sep w' [Ah df 51 [.slice na F.N.length nc,.slice ea F.E.length ec,.slice oa F.O.length oc],Ak 0 88 3 na F.N.length nc (F.N.flatMap CZ),Ak 0 114 3 ea F.E.length ec (F.E.flatMap CM),Ak 0 93 3 oa F.O.length oc (F.O.flatMap CI),Ch.many R]∧(Ai F.E d s=Ai (F.E.drop i) d s)) (fun (i:Nat)=>F.E.length-i) 0 ⟨h8.subs rfl,hS,rfl⟩ ?_
 rintro i1 a1 w1 ⟨h2,s1,hl15⟩ K1 hK1
 refine sq fun _ hK2=>sqr fun _ hK4=>mvs 3 h2 rfl fun _ h3=>fav h3 rfl (AD _ _) fun _ h5=>ldv h5 s1 0 υ48 rfl rfl rfl rfl fun _ h6=>sv1 h6 rfl (CR h6 rfl rfl υ48) fun _ h7=>bv h7 (z:=.bool (decide ((i1:Int)<(F.E.length:Int)))) rfl (cLt _ _ _ _ rfl) fun _ h9=>h9.sn [14,7,6,0,1,2] rfl fun h10=>hK4 _ _ ?_
 rcases bC (decide ((i1:Int)<(F.E.length:Int))) with hc1 | hc1
 ·skip
  have hp1:(i1:Int)<(F.E.length:Int):=(dT hc1)
  refine wcT h10 rfl hc1<|h10.sk [7,6,0,1,2] rfl fun h11=>wp_skip<|hK2 _ _<|sq fun _ hK5=>wp_block ?_
  refine sqr fun _ hK8=>mvs 2 h11 rfl fun _ h12=>fav h12 rfl (AD _ _) fun _ h13=>ldv h13 s1 0 υ48 rfl rfl rfl rfl fun _ h14=>mv h14 rfl fun _ h15=>?_
  obtain ⟨q49,hq1⟩:=AY (s1.get 2 rfl:Own _ _ _ _ _ _ _ _)
  refine sv1 h15 rfl (Aw h15 rfl rfl rfl (fun w=>ixO υ48 κ (sz:=3) (hq1 ω) (j:=i1) rfl ω ω w)) fun _ h16=>sv1 h16 rfl (rfa h16 rfl rfl (fun w=>CE q49 (i1*3) w)) fun _ h17=>sw1 h17 rfl (rld h17 rfl rfl (BO Dp υ3 rfl (s1.get 2 rfl:Own _ _ _ _ _ _ _ _) (hq1 ω) AU (j:=i1) (f:=0) ω (by decide) rfl rfl)) fun _ h18=>mv h18 rfl fun _ h19=>bv h19 (z:=.bool (decide (((F.E.getD i1 AU).dn:Int)=(d:Int)))) rfl (cEq _ _ _ _ rfl) fun _ h20=>mv h20 rfl fun _ h21=>sg h21 (wT h21 rfl rfl rfl) rfl rfl rfl (fun hC1=>by have hq:=(dT hC1);exact (Ap h21 rfl rfl) _) fun _ h22=>sg h22 (wT h22 rfl rfl rfl) rfl rfl rfl (fun hC2=>by have hq:=(dT hC2);exact (Cu h22 rfl (opg rfl hC2)) _) fun _ h23=>sg h23 (wT h23 rfl rfl rfl) rfl rfl rfl (fun hC3=>by have hq:=(dT hC3);exact (rfa h23 rfl (opg rfl hC3) (fun w=>AD df 0 w)) _) fun _ h24=>sg h24 (wT h24 rfl rfl rfl) rfl rfl rfl (fun hC4=>by have hq:=(dT hC4);exact (rld h24 rfl (opg rfl hC4) (ldB υ48 rfl (s1.get 0 rfl:Blk _ _ _ _) rfl))) fun _ h25=>?_
  refine sg h25 (wT h25 rfl rfl rfl) rfl rfl rfl (v:=ν (i1:Int)) (fun hC5=>by have hq:=(dT hC5);exact (Ap h25 rfl rfl) _) fun _ h26=>sg h26 (wT h26 rfl rfl rfl) rfl rfl rfl (v:=.pointer (some ⟨q49,i1*3,none⟩)) (fun hC6=>by have hq:=(dT hC6);exact (Aw h26 rfl (opg rfl hC6) (opg rfl hC6) (fun w=>ixO υ48 κ (sz:=3) (hq1 ω) (j:=i1) rfl ω ω w)) _) fun _ h27=>sg h27 (wT h27 rfl rfl rfl) rfl rfl rfl (v:=.pointer (some ⟨q49,i1*3+1,none⟩)) (fun hC7=>by have hq:=(dT hC7);exact (rfa h27 rfl (opg rfl hC7) (fun w=>Co q49 (i1*3) w)) _) fun _ h28=>sg h28 (wT h28 rfl rfl rfl) rfl rfl rfl (v:=.string ((F.E.getD i1 AU).nm)) (fun hC8=>by have hq:=(dT hC8);exact (rld h28 rfl (opg rfl hC8) (BO Dp υ9 rfl (s1.get 2 rfl:Own _ _ _ _ _ _ _ _) (hq1 ω) AU (j:=i1) (f:=1) ω (by decide) rfl rfl))) fun _ h29=>sg h29 (wT h29 rfl rfl rfl) rfl rfl rfl (v:=.string s) (fun hC9=>by have hq:=(dT hC9);exact (Ap h29 rfl rfl) _) fun _ h30=>sg h30 (wT h30 rfl rfl rfl) rfl rfl rfl (v:=.bool (decide (((F.E.getD i1 AU).nm)=s))) (fun hC10=>by have hq:=(dT hC10);exact (BG h30 rfl (opg rfl hC10) (opg rfl hC10) (RA _ _ _ ((F.E.getD i1 AU).nm) s rfl)) _) fun _ h31=>sv1 h31 rfl (v:=.bool ((decide (((F.E.getD i1 AU).dn:Int)=(d:Int)))&&(decide (((F.E.getD i1 AU).nm)=s)))) (DJ h31 rfl (E:=(decide (((F.E.getD i1 AU).dn:Int)=(d:Int)))) (F:=(decide (((F.E.getD i1 AU).nm)=s))) rfl rfl rfl (fun e=>if_pos (by rw [e];try rfl))) fun _ h32=>h32.sn [38,7,6,0,1,2] rfl fun h33=>hK8 _ _ ?_
  rcases bC ((decide (((F.E.getD i1 AU).dn:Int)=(d:Int)))&&(decide (((F.E.getD i1 AU).nm)=s))) with hc2 | hc2
  ·skip
   have hp2:(((F.E.getD i1 AU).dn:Int)=(d:Int))∧(((F.E.getD i1 AU).nm)=s):=(And.intro (dT (AA hc2).1) (dT (AA hc2).2))
   refine wcT h33 rfl hc2<|h33.sk [7,6,0,1,2] rfl fun h34=>sqr fun _ hK9=>mvs 2 h34 rfl fun _ h35=>fav h35 rfl (AD _ _) fun _ h36=>ldv h36 s1 0 υ48 rfl rfl rfl rfl fun _ h37=>mv h37 rfl fun _ h38=>sv1 h38 rfl (Aw h38 rfl rfl rfl (fun w=>ixO υ48 κ (sz:=3) (hq1 ω) (j:=i1) rfl ω ω w)) fun _ h39=>sv1 h39 rfl (rfa h39 rfl rfl (fun w=>Gd q49 (i1*3) w)) fun _ h40=>sw1 h40 rfl (rld h40 rfl rfl (BO Dp υ3 rfl (s1.get 2 rfl:Own _ _ _ _ _ _ _ _) (hq1 ω) AU (j:=i1) (f:=2) ω (by decide) rfl rfl)) fun _ h41=>?_
   refine h41.sk [46,45,44,43,42,41,40,39,7,0,1,2] rfl fun h42=>mv h42 rfl fun _ h43=>h43.sn [6,7,0,1,2] rfl fun h44=>hK9 _ _<|wp_ret ?_
   try simp only [Exit.then,Exit.inBlock]
   refine Bn (v:=.int .i64 ((F.E.getD i1 AU).nd:Int)) (Cf h44 rfl rfl) h44.defs ?_
   exact ⟨(congrArg (Value.int .i64) (Km (hl15.trans (Pj ω hp2)))).symm,Sep.tail_un (xs:=[_,_,_,_]) s1⟩
  ·skip
   have hp3:(¬ (((F.E.getD i1 AU).dn:Int)=(d:Int)))∨(¬ (((F.E.getD i1 AU).nm)=s)):=((Ix hc2).imp (fun q=>(dF q)) (fun q=>(dF q)))
   refine wcF h33 rfl hc2<|h33.sk [7,6,0,1,2] rfl fun h45=>wp_skip<|hK5 _ _<|wp_region_lit<|mv h45 rfl fun _ h46=>bv h46 (z:=ν ((i1+1:Nat):Int)) rfl (Dx _ _ _ ω ω ω) fun _ h47=>h47.sk [16,15,6,0,1,2] rfl fun h48=>mv h48 rfl fun _ h49=>h49.sk [7,6,0,1,2] rfl fun h50=>wpList_nil ?_
   exact hK1 (i1+1) _ _ ⟨h50.subs rfl,s1,(QJ hl15 ω hp3)⟩ ω
 ·skip
  have hp4:¬ ((i1:Int)<(F.E.length:Int)):=(dF hc1)
  refine wcF h10 rfl hc1<|h10.sk [7,6,0,1,2] rfl fun h51=>wp_exit ?_
  refine hK6 _ _ ?_
  refine sqr fun _ hK10=>h51.sk [7,0,1,2] rfl fun h52=>mv h52 rfl fun _ h53=>wpList_nil<|hK10 _ _<|wp_ret ?_
  try simp only [Exit.then,Exit.inBlock]
  refine Bn (v:=ν (-1)) (Cf h53 rfl rfl) h53.defs ?_
  exact ⟨(congrArg (Value.int .i64) (Kl (hl15.trans (Pi ω)))).symm,Sep.tail_un (xs:=[_,_,_,_]) s1⟩
theorem Hp {w:World} {df:Nat} {na ea oa:Option Addr} {nc ec oc:Nat} {F:FsM} {R:List Ch} {d:Nat} {s:ByteArray} (hS0:Sep w ((dP df na nc ea ec oa oc F)++R)) (hz:SmF F) {m:Nat} (h:Ai F.E d s=some m):CallsR Tryz.prog 45 #[π df,ν (d:Int),.string s] w (fun v w'=>v=ν (m:Int)∧Sep w' ((dP df na nc ea ec oa oc F)++R)):=
 (MD hS0 hz).mono fun v w' ⟨e1,h1⟩=>⟨by rw [e1,Km h],h1⟩
theorem IM {w:World} {df:Nat} {na ea oa:Option Addr} {nc ec oc:Nat} {F:FsM} {R:List Ch} {d:Nat} {s:ByteArray} (hS0:Sep w ((dP df na nc ea ec oa oc F)++R)) (hz:SmF F) (h:Ai F.E d s=none):CallsR Tryz.prog 45 #[π df,ν (d:Int),.string s] w (fun v w'=>v=ν (-1)∧Sep w' ((dP df na nc ea ec oa oc F)++R)):=
 (MD hS0 hz).mono fun v w' ⟨e1,h1⟩=>⟨by rw [e1,Kl h],h1⟩
theorem JJ {w:World} {df:Nat} {na ea oa:Option Addr} {nc ec oc:Nat} {F:FsM} {R:List Ch} {d:Nat} (hS0:Sep w ((dP df na nc ea ec oa oc F)++R)) (hz:SmF F) :
  CallsR Tryz.prog 66 #[π df,ν (d:Int)] w (fun v w'=>v=ν (BH F.E d:Int)∧Sep w' ((dP df na nc ea ec oa oc F)++R)):=by
 have hS:=Sep.tail_many (xs:=dP df na nc ea ec oa oc F) hS0;clear hS0
 have hz0:=hz;obtain ⟨hz1,hz2,hz3⟩:F.N.length≤1000∧F.E.length≤1000∧F.O.length≤1000:=hz
 refine AB Tryz.func66 rfl (N:=29) Tryz.ntmps66 (by show 2≤29;decide) [(0,π df),(1,ν (d:Int))] rfl fun _ h1=>sqr fun _ hK3=>mv h1 rfl fun _ h4=>wpList_nil<|hK3 _ _<|sqr fun _ hK6=>mv h4 rfl fun _ h7=>wpList_nil<|hK6 _ _<|sq fun _ hK9=>sqr fun _ hK1=>mv h7 rfl fun _ h2=>wpList_nil<|hK1 _ _ ?_
 refine wp_block ?_
 refine Hj (fun (i:Nat) (n:Nat) a' w'=>Kn 29 [(6,ν (i:Int)),(5,ν (n:Int)),(4,ν 0),(0,π df),(1,ν (d:Int))] a'∧Sep w' [Ah df 51 [.slice na F.N.length nc,.slice ea F.E.length ec,.slice oa F.O.length oc],Ak 0 88 3 na F.N.length nc (F.N.flatMap CZ),Ak 0 114 3 ea F.E.length ec (F.E.flatMap CM),Ak 0 93 3 oa F.O.length oc (F.O.flatMap CI),Ch.many R]∧(n=BH (F.E.take i) d)∧(n≤i)) (fun (i:Nat) (n:Nat)=>F.E.length-i) 0 0 ⟨h2.subs rfl,hS,rfl,ω⟩ ?_
 rintro i1 n21 a1 w1 ⟨h3,s1,hl18,hni19⟩ K1 hK2
 refine sq fun _ hK4=>sqr fun _ hK5=>mvs 3 h3 rfl fun _ h5=>fav h5 rfl (AD _ _) fun _ h6=>ldv h6 s1 0 υ48 rfl rfl rfl rfl fun _ h8=>sv1 h8 rfl (CR h8 rfl rfl υ48) fun _ h9=>bv h9 (z:=.bool (decide ((i1:Int)<(F.E.length:Int)))) rfl (cLt _ _ _ _ rfl) fun _ h10=>h10.sn [13,6,5,4,0,1] rfl fun h11=>hK5 _ _ ?_
 rcases bC (decide ((i1:Int)<(F.E.length:Int))) with hc1 | hc1
 ·skip
  have hp1:(i1:Int)<(F.E.length:Int):=(dT hc1)
  refine wcT h11 rfl hc1<|h11.sk [6,5,4,0,1] rfl fun h12=>wp_skip<|hK4 _ _<|sq fun _ hK7=>wp_block ?_
  refine sqr fun _ hK8=>mvs 2 h12 rfl fun _ h13=>fav h13 rfl (AD _ _) fun _ h14=>ldv h14 s1 0 υ48 rfl rfl rfl rfl fun _ h15=>mv h15 rfl fun _ h16=>?_
  obtain ⟨q54,hq1⟩:=AY (s1.get 2 rfl:Own _ _ _ _ _ _ _ _)
  refine sv1 h16 rfl (Aw h16 rfl rfl rfl (fun w=>ixO υ48 κ (sz:=3) (hq1 ω) (j:=i1) rfl ω ω w)) fun _ h17=>sv1 h17 rfl (rfa h17 rfl rfl (fun w=>CE q54 (i1*3) w)) fun _ h18=>sw1 h18 rfl (rld h18 rfl rfl (BO Dp υ3 rfl (s1.get 2 rfl:Own _ _ _ _ _ _ _ _) (hq1 ω) AU (j:=i1) (f:=0) ω (by decide) rfl rfl)) fun _ h19=>mv h19 rfl fun _ h20=>bv h20 (z:=.bool (decide (((F.E.getD i1 AU).dn:Int)=(d:Int)))) rfl (cEq _ _ _ _ rfl) fun _ h21=>h21.sn [25,6,5,4,0,1] rfl fun h22=>hK8 _ _ ?_
  rcases bC (decide (((F.E.getD i1 AU).dn:Int)=(d:Int))) with hc2 | hc2
  ·skip
   have hp2:((F.E.getD i1 AU).dn:Int)=(d:Int):=(dT hc2)
   refine wcT h22 rfl hc2<|h22.sk [6,5,4,0,1] rfl fun h23=>wp_region_lit<|mv h23 rfl fun _ h24=>bv h24 (z:=ν ((n21+1:Nat):Int)) rfl (Dx _ _ _ ω ω ω) fun _ h25=>h25.sk [27,26,6,4,0,1] rfl fun h26=>mv h26 rfl fun _ h27=>h27.sn [5,6,4,0,1] rfl fun h28=>hK7 _ _<|wp_region_lit ?_
   refine mv h28 rfl fun _ h29=>bv h29 (z:=ν ((i1+1:Nat):Int)) rfl (Dx _ _ _ ω ω ω) fun _ h30=>h30.sk [15,14,5,4,0,1] rfl fun h31=>mv h31 rfl fun _ h32=>h32.sk [6,5,4,0,1] rfl fun h33=>wpList_nil ?_
   exact hK2 (i1+1) (n21+1) _ _ ⟨h33.subs rfl,s1,by have z:=Ll F.E d (i:=i1) ω;rw [if_pos ω] at z;omega,ω⟩ ω
  ·skip
   have hp3:¬ (((F.E.getD i1 AU).dn:Int)=(d:Int)):=(dF hc2)
   refine wcF h22 rfl hc2<|h22.sk [6,5,4,0,1] rfl fun h34=>wp_skip<|hK7 _ _<|wp_region_lit<|mv h34 rfl fun _ h35=>bv h35 (z:=ν ((i1+1:Nat):Int)) rfl (Dx _ _ _ ω ω ω) fun _ h36=>h36.sk [15,14,5,4,0,1] rfl fun h37=>mv h37 rfl fun _ h38=>h38.sk [6,5,4,0,1] rfl fun h39=>wpList_nil ?_
   exact hK2 (i1+1) n21 _ _ ⟨h39.subs rfl,s1,by have z:=Ll F.E d (i:=i1) ω;rw [if_neg ω] at z;omega,ω⟩ ω
 ·skip
  have hp4:¬ ((i1:Int)<(F.E.length:Int)):=(dF hc1)
  refine wcF h11 rfl hc1<|h11.sk [6,5,4,0,1] rfl fun h40=>wp_exit ?_
  refine hK9 _ _ ?_
  refine sqr fun _ hK10=>mv h40 rfl fun _ h41=>h41.sk [28,6,5,0,1] rfl fun h42=>mv h42 rfl fun _ h43=>h43.sn [4,6,5,0,1] rfl fun h44=>hK10 _ _<|wp_ret ?_
  try simp only [Exit.then,Exit.inBlock]
  refine Bn (v:=ν (n21:Int)) (Cf h44 rfl rfl) h44.defs ?_
  exact ⟨congrArg (fun k:Nat=>Value.int .i64 (k:Int)) (by rw [hl18,List.take_of_length_le ω]),Sep.tail_un (xs:=[_,_,_,_]) s1⟩
theorem Ts {w:World} {df:Nat} {na ea oa:Option Addr} {nc ec oc:Nat} {F:FsM} {R:List Ch} {c fd:Int} (hS0:Sep w ((dP df na nc ea ec oa oc F)++R)) (hz:SmF F) :
  CallsR Tryz.prog 22 #[π df,ν c,ν fd] w (fun v w'=>v=ν (MC F.O c fd)∧Sep w' ((dP df na nc ea ec oa oc F)++R)):=by
 have hS:=Sep.tail_many (xs:=dP df na nc ea ec oa oc F) hS0;clear hS0
 have hz0:=hz;obtain ⟨hz1,hz2,hz3⟩:F.N.length≤1000∧F.E.length≤1000∧F.O.length≤1000:=hz
 refine AB Tryz.func22 rfl (N:=47) Tryz.ntmps22 (by show 3≤47;decide) [(0,π df),(1,ν c),(2,ν fd)] rfl fun _ h1=>sqr fun _ hK3=>mv h1 rfl fun _ h4=>wpList_nil<|hK3 _ _<|sq fun _ hK6=>sqr fun _ hK7=>mv h4 rfl fun _ h8=>wpList_nil<|hK7 _ _<|wp_block ?_
 refine DC (fun (i:Nat) a' w'=>Kn 47 [(7,ν (i:Int)),(6,ν 0),(0,π df),(1,ν c),(2,ν fd)] a'∧Sep w' [Ah df 51 [.slice na F.N.length nc,.slice ea F.E.length ec,.slice oa F.O.length oc],Ak 0 88 3 na F.N.length nc (F.N.flatMap CZ),Ak 0 114 3 ea F.E.length ec (F.E.flatMap CM),Ak 0 93 3 oa F.O.length oc (F.O.flatMap CI),Ch.many R]∧(Az F.O c fd=Az (F.O.drop i) c fd)) (fun (i:Nat)=>F.O.length-i) 0 ⟨h8.subs rfl,hS,rfl⟩ ?_
 rintro i1 a1 w1 ⟨h2,s1,hl15⟩ K1 hK1
 refine sq fun _ hK2=>sqr fun _ hK4=>mvs 3 h2 rfl fun _ h3=>fav h3 rfl (AK _ _) fun _ h5=>ldv h5 s1 0 υ49 rfl rfl rfl rfl fun _ h6=>sv1 h6 rfl (CR h6 rfl rfl υ49) fun _ h7=>bv h7 (z:=.bool (decide ((i1:Int)<(F.O.length:Int)))) rfl (cLt _ _ _ _ rfl) fun _ h9=>h9.sn [14,7,6,0,1,2] rfl fun h10=>hK4 _ _ ?_
 rcases bC (decide ((i1:Int)<(F.O.length:Int))) with hc1 | hc1
 ·skip
  have hp1:(i1:Int)<(F.O.length:Int):=(dT hc1)
  refine wcT h10 rfl hc1<|h10.sk [7,6,0,1,2] rfl fun h11=>wp_skip<|hK2 _ _<|sq fun _ hK5=>wp_block ?_
  refine sqr fun _ hK8=>mvs 2 h11 rfl fun _ h12=>fav h12 rfl (AK _ _) fun _ h13=>ldv h13 s1 0 υ49 rfl rfl rfl rfl fun _ h14=>mv h14 rfl fun _ h15=>?_
  obtain ⟨q49,hq1⟩:=AY (s1.get 3 rfl:Own _ _ _ _ _ _ _ _)
  refine sv1 h15 rfl (Aw h15 rfl rfl rfl (fun w=>ixO υ49 κ (sz:=3) (hq1 ω) (j:=i1) rfl ω ω w)) fun _ h16=>sv1 h16 rfl (rfa h16 rfl rfl (fun w=>Dy q49 (i1*3) w)) fun _ h17=>sw1 h17 rfl (rld h17 rfl rfl (BO DB υ3 rfl (s1.get 3 rfl:Own _ _ _ _ _ _ _ _) (hq1 ω) BN (j:=i1) (f:=0) ω (by decide) rfl rfl)) fun _ h18=>mv h18 rfl fun _ h19=>bv h19 (z:=.bool (decide ((F.O.getD i1 BN).cl=c))) rfl (cEq _ _ _ _ rfl) fun _ h20=>mv h20 rfl fun _ h21=>sg h21 (wT h21 rfl rfl rfl) rfl rfl rfl (fun hC1=>by have hq:=(dT hC1);exact (Ap h21 rfl rfl) _) fun _ h22=>sg h22 (wT h22 rfl rfl rfl) rfl rfl rfl (fun hC2=>by have hq:=(dT hC2);exact (Cu h22 rfl (opg rfl hC2)) _) fun _ h23=>sg h23 (wT h23 rfl rfl rfl) rfl rfl rfl (fun hC3=>by have hq:=(dT hC3);exact (rfa h23 rfl (opg rfl hC3) (fun w=>AK df 0 w)) _) fun _ h24=>sg h24 (wT h24 rfl rfl rfl) rfl rfl rfl (fun hC4=>by have hq:=(dT hC4);exact (rld h24 rfl (opg rfl hC4) (ldB υ49 rfl (s1.get 0 rfl:Blk _ _ _ _) rfl))) fun _ h25=>?_
  refine sg h25 (wT h25 rfl rfl rfl) rfl rfl rfl (v:=ν (i1:Int)) (fun hC5=>by have hq:=(dT hC5);exact (Ap h25 rfl rfl) _) fun _ h26=>sg h26 (wT h26 rfl rfl rfl) rfl rfl rfl (v:=.pointer (some ⟨q49,i1*3,none⟩)) (fun hC6=>by have hq:=(dT hC6);exact (Aw h26 rfl (opg rfl hC6) (opg rfl hC6) (fun w=>ixO υ49 κ (sz:=3) (hq1 ω) (j:=i1) rfl ω ω w)) _) fun _ h27=>sg h27 (wT h27 rfl rfl rfl) rfl rfl rfl (v:=.pointer (some ⟨q49,i1*3+1,none⟩)) (fun hC7=>by have hq:=(dT hC7);exact (rfa h27 rfl (opg rfl hC7) (fun w=>Ex q49 (i1*3) w)) _) fun _ h28=>sg h28 (wT h28 rfl rfl rfl) rfl rfl rfl (v:=ν ((F.O.getD i1 BN).fd)) (fun hC8=>by have hq:=(dT hC8);exact (rld h28 rfl (opg rfl hC8) (BO DB υ3 rfl (s1.get 3 rfl:Own _ _ _ _ _ _ _ _) (hq1 ω) BN (j:=i1) (f:=1) ω (by decide) rfl rfl))) fun _ h29=>sg h29 (wT h29 rfl rfl rfl) rfl rfl rfl (v:=ν fd) (fun hC9=>by have hq:=(dT hC9);exact (Ap h29 rfl rfl) _) fun _ h30=>sg h30 (wT h30 rfl rfl rfl) rfl rfl rfl (v:=.bool (decide ((F.O.getD i1 BN).fd=fd))) (fun hC10=>by have hq:=(dT hC10);exact (BG h30 rfl (opg rfl hC10) (opg rfl hC10) (cEq _ _ _ _ rfl)) _) fun _ h31=>sv1 h31 rfl (v:=.bool ((decide ((F.O.getD i1 BN).cl=c))&&(decide ((F.O.getD i1 BN).fd=fd)))) (DJ h31 rfl (E:=(decide ((F.O.getD i1 BN).cl=c))) (F:=(decide ((F.O.getD i1 BN).fd=fd))) rfl rfl rfl (fun e=>if_pos (by rw [e];try rfl))) fun _ h32=>h32.sn [38,7,6,0,1,2] rfl fun h33=>hK8 _ _ ?_
  rcases bC ((decide ((F.O.getD i1 BN).cl=c))&&(decide ((F.O.getD i1 BN).fd=fd))) with hc2 | hc2
  ·skip
   have hp2:((F.O.getD i1 BN).cl=c)∧((F.O.getD i1 BN).fd=fd):=(And.intro (dT (AA hc2).1) (dT (AA hc2).2))
   refine wcT h33 rfl hc2<|h33.sk [7,6,0,1,2] rfl fun h34=>sqr fun _ hK9=>mvs 2 h34 rfl fun _ h35=>fav h35 rfl (AK _ _) fun _ h36=>ldv h36 s1 0 υ49 rfl rfl rfl rfl fun _ h37=>mv h37 rfl fun _ h38=>sv1 h38 rfl (Aw h38 rfl rfl rfl (fun w=>ixO υ49 κ (sz:=3) (hq1 ω) (j:=i1) rfl ω ω w)) fun _ h39=>sv1 h39 rfl (rfa h39 rfl rfl (fun w=>Gw q49 (i1*3) w)) fun _ h40=>sw1 h40 rfl (rld h40 rfl rfl (BO DB υ3 rfl (s1.get 3 rfl:Own _ _ _ _ _ _ _ _) (hq1 ω) BN (j:=i1) (f:=2) ω (by decide) rfl rfl)) fun _ h41=>?_
   refine h41.sk [46,45,44,43,42,41,40,39,7,0,1,2] rfl fun h42=>mv h42 rfl fun _ h43=>h43.sn [6,7,0,1,2] rfl fun h44=>hK9 _ _<|wp_ret ?_
   try simp only [Exit.then,Exit.inBlock]
   refine Bn (v:=.int .i64 ((F.O.getD i1 BN).nd:Int)) (Cf h44 rfl rfl) h44.defs ?_
   exact ⟨(congrArg (Value.int .i64) (Kp (hl15.trans (Pn ω hp2)))).symm,Sep.tail_un (xs:=[_,_,_,_]) s1⟩
  ·skip
   have hp3:(¬ ((F.O.getD i1 BN).cl=c))∨(¬ ((F.O.getD i1 BN).fd=fd)):=((Ix hc2).imp (fun q=>(dF q)) (fun q=>(dF q)))
   refine wcF h33 rfl hc2<|h33.sk [7,6,0,1,2] rfl fun h45=>wp_skip<|hK5 _ _<|wp_region_lit<|mv h45 rfl fun _ h46=>bv h46 (z:=ν ((i1+1:Nat):Int)) rfl (Dx _ _ _ ω ω ω) fun _ h47=>h47.sk [16,15,6,0,1,2] rfl fun h48=>mv h48 rfl fun _ h49=>h49.sk [7,6,0,1,2] rfl fun h50=>wpList_nil ?_
   exact hK1 (i1+1) _ _ ⟨h50.subs rfl,s1,(QK hl15 ω hp3)⟩ ω
 ·skip
  have hp4:¬ ((i1:Int)<(F.O.length:Int)):=(dF hc1)
  refine wcF h10 rfl hc1<|h10.sk [7,6,0,1,2] rfl fun h51=>wp_exit ?_
  refine hK6 _ _ ?_
  refine sqr fun _ hK10=>h51.sk [7,0,1,2] rfl fun h52=>mv h52 rfl fun _ h53=>wpList_nil<|hK10 _ _<|wp_ret ?_
  try simp only [Exit.then,Exit.inBlock]
  refine Bn (v:=ν (-1)) (Cf h53 rfl rfl) h53.defs ?_
  exact ⟨(congrArg (Value.int .i64) (Ko (hl15.trans (Pm ω)))).symm,Sep.tail_un (xs:=[_,_,_,_]) s1⟩
theorem Hq {w:World} {df:Nat} {na ea oa:Option Addr} {nc ec oc:Nat} {F:FsM} {R:List Ch} {c fd:Int} (hS0:Sep w ((dP df na nc ea ec oa oc F)++R)) (hz:SmF F) {m:Nat} (h:Az F.O c fd=some m):CallsR Tryz.prog 22 #[π df,ν c,ν fd] w (fun v w'=>v=ν (m:Int)∧Sep w' ((dP df na nc ea ec oa oc F)++R)):=
 (Ts hS0 hz).mono fun v w' ⟨e1,h1⟩=>⟨by rw [e1,Kp h],h1⟩
theorem Jh {w:World} {df:Nat} {na ea oa:Option Addr} {nc ec oc:Nat} {F:FsM} {R:List Ch} {c fd:Int} (hS0:Sep w ((dP df na nc ea ec oa oc F)++R)) (hz:SmF F) (h:Az F.O c fd=none):CallsR Tryz.prog 22 #[π df,ν c,ν fd] w (fun v w'=>v=ν (-1)∧Sep w' ((dP df na nc ea ec oa oc F)++R)):=
 (Ts hS0 hz).mono fun v w' ⟨e1,h1⟩=>⟨by rw [e1,Ko h],h1⟩
end
end Go.Proofs.YtcanemamnmmbcaaGreatDoor
