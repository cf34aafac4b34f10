/- Texts; a cell of a struct in a list. -/
import Derived.Test.YtpdjnefgkcmdnaaGreatDoorSxE
import Derived.Test.YtpdjnefgkcmdnaaGreatDoorPthD
import Derived.Sort.Walk0
namespace Go.Proofs.YtpdjnefgkcmdnaaGreatDoor
open Go.RowKit
set_option linter.unusedSimpArgs false
set_option linter.unusedVariables false
set_option maxRecDepth 100000
theorem strB_app (X Y:List UInt8):strB X++strB Y=strB (X++Y):=by
  apply ByteArray.ext;rw [ByteArray.data_append];simp [strB]
theorem strB_inj {X Y:List UInt8}:strB X=strB Y↔X=Y:=strB_eq X Y
/-- operands, looked up one by one -/
theorem mapcS {l:List (Nat×Value)} {x:Operand} {v:Value} {xs:List Operand} {vs:List Value} (h:opv l x=some v) (hs:xs.map (opv l)=vs.map some):(x::xs).map (opv l)=(v::vs).map some:=by
  rw [List.map_cons,List.map_cons,h,hs]
/-- which text comes first -/
def ltN (x y:ByteArray):Bool:=decide (x.data.toList<y.data.toList)
/-- texts as structs of one cell -/
def sE (x:ByteArray):List Value:=[.string x]
theorem sE_len (x:ByteArray):(sE x).length=1:=rfl
theorem flat_sE (L:List ByteArray):L.flatMap sE=L.map strV:=by induction L<;>simp_all [sE,strV]
section
variable {P:Program} {o:Oper} {a:Act} {N:Nat} {l:List (Nat×Value)}
theorem rlenT (h:Kn N l a) {x:Operand} {T:TypeId} (ho:o.op=.call { callee:=.builtin .len,args:=#[x],argTypes:=#[T] }) {X:List UInt8} (hx:opv l x=some (.string (strB X))) (hu:P.underlying T=some .string) (w:World):(execOp a.eval o).run P w=.ok (.value (.int .i64 (X.length:Int))) w:=by
  have z:=rlenB (P:=P) h ho hx hu w
  rw [strB_size] at z;exact z
theorem bStrEqL (T:TypeId) (x y:Operand) (X Y:List UInt8) {t:Bool} (ht:decide (X=Y)=t) (w:World):(do eqGuard .eql T x y (.string (strB X)) (.string (strB Y));binOp .eql T (.string (strB X)) (.string (strB Y)):Sem Value).run P w=.ok (.bool t) w:=
  bStr .eql T x y _ _ (by rw [← ht,eqN_str];exact congrArg some (decide_eq_decide.2 strB_inj)) w
theorem bStrNeL (T:TypeId) (x y:Operand) (X Y:List UInt8) {t:Bool} (ht:decide (X≠Y)=t) (w:World):(do eqGuard .neq T x y (.string (strB X)) (.string (strB Y));binOp .neq T (.string (strB X)) (.string (strB Y)):Sem Value).run P w=.ok (.bool t) w:=
  bStr .neq T x y _ _ (by rw [← ht,eqN_str,← decide_not];exact congrArg some (decide_eq_decide.2 (not_congr strB_inj))) w
theorem bStrEqB (T:TypeId) (x y:Operand) (X Y:ByteArray) {t:Bool} (ht:decide (X=Y)=t) (w:World):(do eqGuard .eql T x y (.string X) (.string Y);binOp .eql T (.string X) (.string Y):Sem Value).run P w=.ok (.bool t) w:=
  bStr .eql T x y _ _ (by rw [← ht,eqN_str]) w
theorem bStrNeB (T:TypeId) (x y:Operand) (X Y:ByteArray) {t:Bool} (ht:decide (X≠Y)=t) (w:World):(do eqGuard .neq T x y (.string X) (.string Y);binOp .neq T (.string X) (.string Y):Sem Value).run P w=.ok (.bool t) w:=
  bStr .neq T x y _ _ (by rw [← ht,eqN_str,← decide_not]) w
theorem less_ltN (x y:ByteArray):Op.bytesLess x.toList y.toList=ltN x y:=by
  rw [bytesLess_eq,ByteArray.toList_eq,ByteArray.toList_eq];rfl
theorem bStrLt (T:TypeId) (x y:Operand) (X Y:ByteArray) (w:World):(do eqGuard .lss T x y (.string X) (.string Y);binOp .lss T (.string X) (.string Y):Sem Value).run P w=.ok (.bool (ltN X Y)) w:=
  bStr .lss T x y _ _ (by rw [less_ltN]) w
theorem bStrAdd (T:TypeId) (x y:Operand) (X Y:List UInt8) (hl:X.length+Y.length≤9223372036854775807) (w:World):(do eqGuard .add T x y (.string (strB X)) (.string (strB Y));binOp .add T (.string (strB X)) (.string (strB Y)):Sem Value).run P w=.ok (.string (strB (X++Y))) w:=by
  have h1:((strB X).size:Int)+((strB Y).size:Int)≤9223372036854775807:=by
    rw [strB_size,strB_size]
    omega
  simp [eqGuard,binOp,Op.stringOp,Sem.run_bind,h1,strB_app]
/-- a part of a text -/
theorem slT (T:TypeId) (hu:P.underlying T=some .string) (X:List UInt8) {lo hi:Option Value} {a b:Nat} (ha:(lo=none∧a=0)∨(∃ i,lo=some (.int .i64 i)∧i=(a:Int))) (hb:(hi=none∧b=X.length)∨(∃ i,hi=some (.int .i64 i)∧i=(b:Int))) (h1:a≤b) (h2:b≤X.length) (w:World) :
    (Instr.sliceAt T (.string (strB X)) lo hi none).run P w=.ok (.string (strB ((X.take b).drop a))) w:=by
  have e:(strB X).extract a b=strB ((X.take b).drop a):=by rw [ext_str,strB_data,List.drop_take]
  have i1:(a:Int)≤b:=by omega
  have i2:(b:Int)≤X.length:=by omega
  rcases ha with ⟨rfl,rfl⟩ | ⟨i,rfl,rfl⟩<;>rcases hb with ⟨rfl,rfl⟩ | ⟨k,rfl,rfl⟩ <;>
    simp [Instr.sliceAt,Instr.slice,Instr.sliceBounds,Instr.sliceBound,asIntOf,underlying,hu,Sem.run_bind,strB_size,i1,i2,h1,h2,e]<;>rw [ext_str,strB_data]<;>simp
theorem rslT (h:Kn N l a) {T:TypeId} {x:Operand} {lo hi:Option Operand} (ho:o.op=.slice T x lo hi none) {v u:Value} (hx:opv l x=some v) {vl vh:Option Value} (hl:lo.map (opv l)=vl.map some) (hh:hi.map (opv l)=vh.map some) (hf:∀ w,(Instr.sliceAt T v vl vh none).run P w=.ok u w) (w:World):(execOp a.eval o).run P w=.ok (.value u) w:=by
  have e1:lo.map a.eval=vl:=by
    cases lo with
    | none=>cases vl with
      | none=>rfl
      | some q=>simp at hl
    | some p=>cases vl with
      | none=>simp at hl
      | some q=>simp at hl;simp [h.op hl]
  have e2:hi.map a.eval=vh:=by
    cases hi with
    | none=>cases vh with
      | none=>rfl
      | some q=>simp at hh
    | some p=>cases vh with
      | none=>simp at hh
      | some q=>simp at hh;simp [h.op hh]
  unfold execOp;rw [ho]
  simp only [h.op hx,e1,e2]
  exact run_v (hf w)
/-- the head of a list -/
theorem slL (T E:TypeId) (hu:P.underlying T=some (.slice E)) (hE:((P.info? E).map (·.size)).isSome=true) (ad:Option Addr) (n c:Nat) {b:Nat} (hb:b≤c) (w:World) :
    (Instr.sliceAt T (.slice ad n c) none (some (.int .i64 (b:Int))) none).run P w=.ok (.slice ad b c) w:=by
  have i1:(b:Int)≤c:=by omega
  cases hq:P.info? E with
  | none=>simp [hq] at hE
  | some q=>
    simp [Instr.sliceAt,Instr.slice,Instr.sliceBounds,Instr.sliceBound,asIntOf,underlying,hu,Sem.run_bind,sizeOf,typeInfo,hq,i1]
    cases ad<;>simp [Addr.add]<;>exact fun q=>absurd q (by omega)
theorem rmax2 (h:Kn N l a) {x y:Operand} {ts:Array TypeId} (ho:o.op=.call { callee:=.builtin .max,args:=#[x,y],argTypes:=ts }) {i j r:Int} {k:IntKind} (hx:opv l x=some (.int k i)) (hy:opv l y=some (.int k j)) (e:(if j>i then j else i)=r) (w:World):(execOp a.eval o).run P w=.ok (.value (.int k r)) w:=by
  subst e
  refine rbuiltin h (xs:=[x,y]) (vs:=[.int k i,.int k j]) ho (by simp [hx,hy]) fun cs=>?_
  simp [builtin,Builtin.max_,Builtin.max2,Sem.run_bind]
theorem rmin2 (h:Kn N l a) {x y:Operand} {ts:Array TypeId} (ho:o.op=.call { callee:=.builtin .min,args:=#[x,y],argTypes:=ts }) {i j r:Int} {k:IntKind} (hx:opv l x=some (.int k i)) (hy:opv l y=some (.int k j)) (e:(if j<i then j else i)=r) (w:World):(execOp a.eval o).run P w=.ok (.value (.int k r)) w:=by
  subst e
  refine rbuiltin h (xs:=[x,y]) (vs:=[.int k i,.int k j]) ho (by simp [hx,hy]) fun cs=>?_
  simp [builtin,Builtin.min_,Builtin.min2,Sem.run_bind]
end
section
variable {P:Program} {Q:Exit→Act→World→Prop} {o:Oper} {a:Act} {w w':World} {N:Nat} {l:List (Nat×Value)} {K:Act→World→Prop} {cs:List Ch}
/-- a cell of a struct in a list of one's own -/
theorem xstoreOf {α:Type} {enc:α→List Value} {sz:Nat} (henc:∀ x,(enc x).length=sz) (h:Kn N l a) (hd:o.dst=none) {T:TypeId} {x y:Operand} (ho:o.op=.store T x y) (hS:Sep w cs) (i:Nat) {B:Nat} {e:TypeId} {ad:Option Addr} {q c j f off:Nat} {L:List α} (hi:cs[i]? = some (ownC B e sz ad L.length c (L.flatMap enc))) (ha:ad=some ⟨q,0,none⟩) (hx:opv l x=some (.pointer (some ⟨q,off,none⟩))) {u:Value} (hy:opv l y=some u) (hu:u.cells=#[u]) (hone:u.oneCell'=true)
    (z m:α) (hm:(enc (L.getD j z)).set f u=enc m)
    (hn:(P.info? T).map (·.size)=some 1) (hj:j<L.length) (hf:f<sz) (hoff:j*sz+f=off) {n':Nat} (hn':L.length=n')
    (k:∀ a' w',Kn N l a'→Sep w' (cs.set i (ownC B e sz ad n' c ((L.set j m).flatMap enc)))→K a' w'):Oper.wp P o a w K Q:=by
  subst ha;subst hn'
  have hO:Own w B e sz (some ⟨q,0,none⟩) L.length c (L.flatMap enc):=hS.get i hi
  obtain ⟨L',hb,hle,hB,hk⟩:=own_splice hO
  have hle2:j*sz+sz≤L.length*sz:=by rw [← Nat.succ_mul];exact Nat.mul_le_mul_right _ hj
  have hfit:off+([u]:List Value).length≤L.length*sz:=by simp only [List.length_cons,List.length_nil];omega
  obtain ⟨h2,h3⟩:=Blk.setCells [u] off w L' hb (by omega)
  have hr:=run_storeAt_mid (P:=P) w q off T #[u] (by simpa using hb.there off 1 (by simp only [List.length_cons,List.length_nil] at hfit;omega)) (by simpa using hn) (by simpa using hone)
  have hown:=hk _ off [u] hfit h2
  have e2:splice (L.flatMap enc) off [u]=(L.set j m).flatMap enc:=by
    rw [← ls_set henc hj rfl,← hm]
    subst hoff
    have hlen:(L.flatMap enc).length=L.length*sz:=ls_len henc L
    have hel:(enc (L.getD j z)).length=sz:=henc _
    refine List.ext_getElem? fun p=>?_
    unfold splice
    have t1:(List.take (j*sz+f) (L.flatMap enc)).length=j*sz+f:=by rw [List.length_take];omega
    have t2:(List.take (j*sz) (L.flatMap enc)).length=j*sz:=by rw [List.length_take];omega
    rcases Nat.lt_trichotomy p (j*sz+f) with hp | hp | hp
    · rw [List.getElem?_append_left (by omega),List.getElem?_take,if_pos hp]
      by_cases hp2:p<j*sz
      · rw [List.getElem?_append_left (by omega),List.getElem?_take,if_pos hp2]
      · rw [List.getElem?_append_right (by omega),t2,List.getElem?_append_left (by rw [List.length_set];omega),List.getElem?_set_ne (by omega)]
        have:=ls_get henc (L:=L) (j:=j) (k:=p-j*sz) (o:=p) z hj (by omega) (by omega)
        exact this
    · subst hp
      rw [List.getElem?_append_right (by omega),t1,Nat.sub_self]
      show some u=_
      rw [List.getElem?_append_right (by omega),t2,List.getElem?_append_left (by rw [List.length_set];omega),show j*sz+f-j*sz=f by omega,List.getElem?_set_self (by omega)]
    · rw [List.getElem?_append_right (by omega),t1,List.getElem?_append_right (by simp only [List.length_cons,List.length_nil];omega),List.getElem?_drop]
      rw [show j*sz+f+[u].length+(p-(j*sz+f) - [u].length)=p by simp only [List.length_cons,List.length_nil];omega]
      by_cases hp2:p<j*sz+sz
      · rw [List.getElem?_append_right (by omega),t2,List.getElem?_append_left (by rw [List.length_set];omega),List.getElem?_set_ne (by omega)]
        have:=ls_get henc (L:=L) (j:=j) (k:=p-j*sz) (o:=p) z hj (by omega) (by omega)
        exact this
      · rw [List.getElem?_append_right (by omega),t2,List.getElem?_append_right (by rw [List.length_set];omega),List.length_set,List.getElem?_drop,hel]
        congr 1;omega
  rw [e2] at hown
  refine op_skip (w':=w.setCells q off [u]) h hd ?_ fun a' h'=>k a' _ h' (hS.upd i hi (Turns.of_grown (X:=fun k=>k=q) h3 rfl) (fun k _ hk=>?_) (c':=ownC B e sz (some ⟨q,0,none⟩) L.length c ((L.set j m).flatMap enc)) hown (fun k hk=>.inl hk))
  · unfold execOp;rw [ho];simp only [h.op hx,h.op hy]
    rw [Sem.run_bind,run_storeVal hu,hr]
    rfl
  · subst hk;rfl
end
end Go.Proofs.YtpdjnefgkcmdnaaGreatDoor
