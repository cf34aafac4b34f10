/- Blocks of lists: ints, structs. -/
import Derived.Test.YtpdjnefgkcmdnaaGreatDoorSxC
import Derived.Test.YtpdjnefgkcmdnaaGreatDoorLibI
import Derived.Laws.OwnMore
namespace Go.Proofs.YtpdjnefgkcmdnaaGreatDoor
open Go.RowKit
set_option linter.unusedSimpArgs false
set_option linter.unusedVariables false

theorem rneg {N:Nat} {l:List (Nat×Value)} {a:Act} {o:Oper} (h:Kn N l a) {x:Operand} (ho:o.op=.unOp .neg 3 x) {n r:Int} (hx:opv l x=some (.int .i64 n)) (e:-n=r) (h1:-9223372036854775808≤r) (h2:r≤9223372036854775807) (w:World):(execOp a.eval o).run Tryz.prog w=.ok (.value (.int .i64 r)) w:=by
  subst e
  unfold execOp
  rw [ho]
  simp only [h.op hx]
  have u3:=Tryz.underlying3
  have a3:=Tryz.isAgg3
  have z3:=Tryz.sizeOf3
  have e1:IntKind.i64.wrap (-n)=-n:=IntWalk.i64_in _ (by omega)
  go_simp
theorem li_get {L:List Int} {j:Nat} (h:j<L.length):(L.map iV)[j]? = some (.int .i64 (L.getD j 0)):=by
  rw [List.getElem?_map,List.getElem?_eq_getElem h];simp [iV,h]
theorem ls_get {α:Type} {enc:α→List Value} {sz:Nat} (h:∀ x,(enc x).length=sz) {L:List α} {j k o:Nat} (z:α) (hj:j<L.length) (hk:k<sz) (ho:j*sz+k=o):(L.flatMap enc)[o]? = (enc (L.getD j z))[k]?:=by
  subst ho
  rw [flat_get enc sz h L j k hj hk]
  simp [hj]
theorem ls_all {α:Type} {enc:α→List Value} {sz:Nat} (h:∀ x,(enc x).length=sz) {L:List α} {j o:Nat} (z:α) (hj:j<L.length) (ho:j*sz=o):((L.flatMap enc).drop o).take sz=enc (L.getD j z):=by
  subst ho
  refine List.ext_getElem? fun i=>?_
  rw [List.getElem?_take]
  split
  · rename_i hi
    rw [List.getElem?_drop]
    exact ls_get h z hj hi rfl
  · rename_i hi
    rw [List.getElem?_eq_none (by rw [h];omega)]
theorem ls_set {α:Type} {enc:α→List Value} {sz:Nat} (h:∀ x,(enc x).length=sz) {L:List α} {j o:Nat} {y:α} (hj:j<L.length) (ho:j*sz=o):splice (L.flatMap enc) o (enc y)=(L.set j y).flatMap enc:=by
  subst ho;exact (flat_set enc sz h L j y hj).symm
theorem ls_len {α:Type} {enc:α→List Value} {sz:Nat} (h:∀ x,(enc x).length=sz) (L:List α):(L.flatMap enc).length=L.length*sz:=flat_len enc sz h L
theorem own_cap {w:World} {B:Nat} {e:TypeId} {sz:Nat} {a:Option Addr} {n c:Nat} {cs:List Value} (h:Own w B e sz a n c cs):n≤c:=by
  obtain ⟨h0,h⟩:=h
  rcases h with ⟨hv,h0⟩ | ⟨g',cap,cur,hv,hg,hh,h1,h2,h3,h4⟩
  · omega
  · cases hv;exact h1
/-- a list of one's own: where it lies, what stands in it -/
theorem own_addr {w:World} {B:Nat} {e:TypeId} {sz:Nat} {a:Option Addr} {n c:Nat} {cs:List Value} (h:Own w B e sz a n c cs):∃ q,0<n→a=some ⟨q,0,none⟩:=by
  rcases Nat.eq_zero_or_pos n with hn | hn
  · exact ⟨0,fun q=>by omega⟩
  · obtain ⟨q,hq⟩:=own_someO h hn
    exact ⟨q,fun _=>hq⟩
section
variable {P:Program}
theorem ixO {T E:TypeId} (hu:P.underlying T=some (.slice E)) {sz:Nat} (hsz:(P.info? E).map (·.size)=some sz) {a:Option Addr} {b off n c j:Nat} (ha:a=some ⟨b,off,none⟩) {k:IntKind} {i:Int} (hi:i=(j:Int)) (hj:j<n) {o:Nat} (ho:off+j*sz=o) (w:World):(Instr.indexAt T (.slice a n c) (.int k i)).run P w=.ok (.pointer (some ⟨b,o,none⟩)) w:=by
  subst hi;subst ho;subst ha
  have d0:(j:Int)<(n:Int):=by omega
  have d1:0≤(j:Int):=by omega
  cases hq:P.info? E with
  | none=>simp [hq] at hsz
  | some q=>
    have hs:q.size=sz:=by simpa [hq] using hsz
    simp [Instr.indexAt,asIntOf,underlying,hu,Sem.run_bind,sizeOf,typeInfo,hq,hs,hj]
    unfold Addr.add
    split
    · simp_all
    · simp
theorem ldOS {α:Type} {enc:α→List Value} {sz:Nat} (henc:∀ x,(enc x).length=sz) {T:TypeId} {k:TypeDesc} (hu:P.underlying T=some k) (hk:k.isRow=true) (hn:(P.info? T).map (·.size)=some sz) {w:World} {B:Nat} {e:TypeId} {a:Option Addr} {q c j o:Nat} {L:List α} (h:Own w B e sz a L.length c (L.flatMap enc)) (ha:a=some ⟨q,0,none⟩) (z:α) (hj:j<L.length) (ho:j*sz=o):(Instr.loadAt T (.pointer (some ⟨q,o,none⟩))).run P w=.ok (.agg (enc (L.getD j z)).toArray) w:=by
  subst ha
  obtain ⟨L',hb,_,_,ht,hnc,_⟩:=Own.blk h
  refine ldA hu hk hn hb ?_ (henc _)
  rw [← ls_all henc z hj ho,← ht]
  have hle:o+sz≤L.length*sz:=by rw [← ho,← Nat.succ_mul];exact Nat.mul_le_mul_right _ hj
  refine List.ext_getElem? fun i=>?_
  rw [List.getElem?_take,List.getElem?_take]
  split
  · rw [List.getElem?_drop,List.getElem?_drop,List.getElem?_take,if_pos (by omega)]
  · rfl
/-- a part of an element -/
theorem ldOSc {α:Type} {enc:α→List Value} {sz:Nat} (henc:∀ x,(enc x).length=sz) {T:TypeId} {k:TypeDesc} (hu:P.underlying T=some k) (hk:k.isRow=false) {w:World} {B:Nat} {e:TypeId} {a:Option Addr} {q c j f o:Nat} {L:List α} (h:Own w B e sz a L.length c (L.flatMap enc)) (ha:a=some ⟨q,0,none⟩) (z:α) (hj:j<L.length) (hf:f<sz) (ho:j*sz+f=o) {v:Value} (hv:(enc (L.getD j z))[f]? = some v):(Instr.loadAt T (.pointer (some ⟨q,o,none⟩))).run P w=.ok v w:=by
  subst ha
  obtain ⟨L',hb,_,_,ht,hnc,_⟩:=Own.blk h
  refine ldB hu hk hb ?_
  have:=ls_get henc z hj hf ho
  rw [hv,← ht,List.getElem?_take] at this
  split at this
  · exact this
  · cases this
end
section
variable {P:Program} {Q:Exit→Act→World→Prop} {o:Oper} {a:Act} {w w':World} {N:Nat} {l:List (Nat×Value)} {K:Act→World→Prop} {cs:List Ch}
/-- a struct appended to a list of structs -/
theorem xappS {α:Type} {enc:α→List Value} {sz:Nat} (henc:∀ x,(enc x).length=sz) (h:Kn N l a) {d:Nat} (hd:o.dst=some d) (hdN:decide (d<N)=true) (hf:l.all (fun x=>!(x.1 == d))=true) {s x:Operand} {t e:TypeId} {by_:Nat}
    (ho:o.op=.call { callee:=.builtin .append,args:=#[s,x],argTypes:=#[t,t] }) (E:ElemT P t e sz by_) (hS:Sep w cs) (i:Nat) {B:Nat}
    {a1:Option Addr} {c:Nat} {L:List α} (hi:cs[i]? = some (ownC B e sz a1 L.length c (L.flatMap enc))) (hs:opv l s=some (.slice a1 L.length c)) (j:Nat) {g:Nat} {e':TypeId} {y:α} (hj:cs[j]? = some (blkC g e' (enc y))) (hx:opv l x=some (.slice (some ⟨g,0,none⟩) 1 1))
    (h1:(enc y).all (·.oneCell')=true) (hb:by_≤1000) (hn:L.length<1000000000) {L':List α} (hL:L++[y]=L')
    (k:∀ a' b' c' w',Kn N ((d,.slice b' L'.length c')::l) a'→Sep w' (cs.set i (ownC 0 e sz b' L'.length c' (L'.flatMap enc)))→K a' w'):Oper.wp P o a w K Q:=by
  refine xappend h hd hdN hf ho E hS i hi hs hx (ds:=enc y) (row_blkO (hS.get j hj:Blk _ _ _ _) sz 1 (by rw [henc,Nat.one_mul]) (by decide)) (by decide) h1 (Nat.le_trans (Nat.mul_le_mul_left _ hb) (by omega)) (by omega) (n':=L'.length) (by rw [← hL];simp) fun a' b' c' w' h' s' _=>k a' b' c' w' h' ?_
  rw [show L.flatMap enc++enc y=L'.flatMap enc by rw [← hL];simp] at s'
  exact s'
end
section
variable {P:Program} {Q:Exit→Act→World→Prop} {o:Oper} {a:Act} {w w':World} {N:Nat} {l:List (Nat×Value)} {K:Act→World→Prop} {cs:List Ch}
/-- a result that lies in a cell -/
theorem resC {fn:Func} (hK:Kn N l a) {c:Nat} {T:TypeId} (h:fn.results=#[.cell c T]) {g:Nat} {e:TypeId} {L:List Value} {k:TypeDesc} (hc:opv l (.tmp c)=some (.pointer (some ⟨g,0,none⟩))) (hb:Blk w g e L) (hu:P.underlying T=some k) (hk:k.isRow=true) (hn:(P.info? T).map (·.size)=some L.length):(results fn a.tmps).run P w=.ok (.agg L.toArray) w:=
  results_cell1 h (hK.op hc) hb hu hk hn
theorem resCt {fn:Func} (hK:Kn N l a) {c u:Nat} {T:TypeId} (h:fn.results=#[.cell c T,.tmp u]) {g:Nat} {e:TypeId} {L:List Value} {k:TypeDesc} (hc:opv l (.tmp c)=some (.pointer (some ⟨g,0,none⟩))) {v:Value} (hv:opv l (.tmp u)=some v) (hb:Blk w g e L) (hu:P.underlying T=some k) (hk:k.isRow=true) (hn:(P.info? T).map (·.size)=some L.length):(results fn a.tmps).run P w=.ok (.tuple #[.agg L.toArray,v]) w:=by
  have e:=hK.op hv
  have q:=results_cell2 (P:=P) (w:=w) h (hK.op hc) hb hu hk hn
  simp only [Act.eval] at e
  rw [q,e]
theorem retRw {fn:Func} {R:Value→World→Prop} {v:Value} (hr:(results fn a.tmps).run P w=.ok v w) (hd:a.defers=[]) (k:R v w):bodyPost P fn (fun e w'=>∃ v,e=.returned v∧R v w') .ret a w:=bodyPost_ret hr hd ⟨v,rfl,k⟩
end
end Go.Proofs.YtpdjnefgkcmdnaaGreatDoor
