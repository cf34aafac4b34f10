/- Steps told shorter: what an operation does is computed, so that one rfl finds it all. -/
import Derived.Test.YtpdjnefgkcmdnaaGreatDoorSxT
namespace Go.Proofs.YtpdjnefgkcmdnaaGreatDoor
open Go.RowKit
set_option linter.unusedSimpArgs false
set_option linter.unusedVariables false

def lkU:List (Nat×Value)→Nat→Option Value
  | [],_=>none
  | (k,v)::r,n=>match Nat.beq k n with
    | true=>some v
    | false=>lkU r n
def opU (l:List (Nat×Value)):Operand→Option Value
  | .tmp k=>lkU l k
  | .const v=>some v
  | .global g=>some (.pointer (some ⟨g,0,none⟩))
  | .func f=>some (.func (.func f) #[] #[])
def opsU (l:List (Nat×Value)):List Operand→Option (List Value)
  | []=>some []
  | x::r=>match opU l x,opsU l r with
    | some v,some vs=>some (v::vs)
    | _,_=>none
def frU:List (Nat×Value)→Nat→Bool
  | [],_=>true
  | (k,_)::r,d=>match Nat.beq k d with
    | true=>false
    | false=>frU r d
def prU (d:Nat):Option Value→Option (Nat×Value)
  | some v=>some (d,v)
  | none=>none
def dstU (N:Nat) (l:List (Nat×Value)) (o:Oper):Option Nat:=
  match o.guard with
  | some _=>none
  | none=>match o.dst with
    | none=>none
    | some d=>match Nat.ble (d+1) N with
      | false=>none
      | true=>match frU l d with
        | false=>none
        | true=>some d
def valU (l:List (Nat×Value)):Op→Option Value
  | .move x=>opU l x
  | .assign x=>opU l x
  | .extract x i=>match opU l x with
    | some (.tuple vs)=>vs.toList[i]?
    | _=>none
  | .nilCheck x=>match opU l x with
    | some (.pointer (some p))=>some (.pointer (some p))
    | some (.func (.func f) xs ys)=>some (.func (.func f) xs ys)
    | _=>none
  | .unOp .not _ x=>match opU l x with
    | some (.bool b)=>some (.bool !b)
    | _=>none
  | _=>none
def mvU (N:Nat) (l:List (Nat×Value)) (o:Oper):Option (Nat×Value):=
  match dstU N l o with
  | none=>none
  | some d=>prU d (valU l o.op)
def setU {α:Type}:List α→Nat→α→Option (List α)
  | [],_,_=>none
  | _::r,0,x=>some (x::r)
  | c::r,i+1,x=>match setU r i x with
    | some s=>some (c::s)
    | none=>none
def notinU:Nat→List Nat→Bool
  | _,[]=>true
  | i,j::r=>match Nat.beq i j with
    | true=>false
    | false=>notinU i r
def pkU {α:Type} (cs:List α):List Nat→Option (List α)
  | []=>some []
  | i::is=>match notinU i is with
    | false=>none
    | true=>match cs[i]? with
      | none=>none
      | some c=>match pkU cs is with
        | none=>none
        | some r=>some (c::r)
def subU (l:List (Nat×Value)):List Nat→Option (List (Nat×Value))
  | []=>some []
  | k::ks=>match lkU l k with
    | none=>none
    | some v=>match subU l ks with
      | none=>none
      | some r=>some ((k,v)::r)

theorem lkU_find (l:List (Nat×Value)) (n:Nat):lkU l n=(l.find? fun y=>y.1 == n).map (·.2):=by
  induction l with
  | nil=>rfl
  | cons y r ih=>
    obtain ⟨k,v⟩:=y
    cases e:Nat.beq k n with
    | true=>
      have e2:(k == n)=true:=beq_iff_eq.2 (Nat.eq_of_beq_eq_true e)
      simp [lkU,e,e2]
    | false=>
      have e2:(k == n)=false:=beq_eq_false_iff_ne.2 (Nat.ne_of_beq_eq_false e)
      simp only [lkU,e,List.find?_cons,e2,ih]
theorem opU_opv (l:List (Nat×Value)) (x:Operand):opU l x=opv l x:=by
  cases x with
  | tmp k=>exact lkU_find l k
  | _=>rfl
theorem opsU_map {l:List (Nat×Value)}:∀ {xs:List Operand} {vs:List Value},opsU l xs=some vs→xs.map (opv l)=vs.map some:=by
  intro xs
  induction xs with
  | nil=>intro vs h;cases h;rfl
  | cons x r ih=>
    intro vs h
    unfold opsU at h
    cases hx:opU l x with
    | none=>simp [hx] at h
    | some v=>
      cases hr:opsU l r with
      | none=>simp [hx,hr] at h
      | some us=>
        simp only [hx,hr,Option.some.injEq] at h
        subst h
        rw [List.map_cons,List.map_cons,ih hr,← opU_opv,hx]
theorem frU_all {l:List (Nat×Value)} {d:Nat} (h:frU l d=true):l.all (fun x=>!(x.1 == d))=true:=by
  induction l with
  | nil=>rfl
  | cons y r ih=>
    obtain ⟨k,v⟩:=y
    unfold frU at h
    cases e:Nat.beq k d with
    | true=>simp [e] at h
    | false=>
      simp only [e] at h
      have e2:(k == d)=false:=beq_eq_false_iff_ne.2 (Nat.ne_of_beq_eq_false e)
      simp only [List.all_cons,e2,ih h];rfl
theorem dstU_spec {N:Nat} {l:List (Nat×Value)} {o:Oper} {d:Nat} (h:dstU N l o=some d):o.guard=none∧o.dst=some d∧decide (d<N)=true∧l.all (fun x=>!(x.1 == d))=true:=by
  unfold dstU at h
  cases hg:o.guard with
  | some g=>simp [hg] at h
  | none=>
    cases hd:o.dst with
    | none=>simp [hg,hd] at h
    | some e=>
      cases hn:Nat.ble (e+1) N with
      | false=>simp [hg,hd,hn] at h
      | true=>
        cases hf:frU l e with
        | false=>simp [hg,hd,hn,hf] at h
        | true=>
          simp only [hg,hd,hn,hf,Option.some.injEq] at h
          subst h
          exact ⟨rfl,rfl,decide_eq_true (Nat.le_of_ble_eq_true hn),frU_all hf⟩
theorem setU_set {α:Type}:∀ {L:List α} {i:Nat} {x:α} {L':List α},setU L i x=some L'→L'=L.set i x∧i<L.length:=by
  intro L
  induction L with
  | nil=>intro i x L' h;cases h
  | cons c r ih=>
    intro i x L' h
    cases i with
    | zero=>cases h;exact ⟨rfl,Nat.succ_pos _⟩
    | succ i=>
      unfold setU at h
      cases e:setU r i x with
      | none=>simp [e] at h
      | some s=>
        simp only [e,Option.some.injEq] at h
        subst h
        obtain ⟨e1,e2⟩:=ih e
        exact ⟨by rw [e1];rfl,Nat.succ_lt_succ e2⟩
theorem notinU_not {i:Nat} {js:List Nat} (h:notinU i js=true):i∉js:=by
  induction js with
  | nil=>simp
  | cons j r ih=>
    unfold notinU at h
    cases e:Nat.beq i j with
    | true=>simp [e] at h
    | false=>
      simp only [e] at h
      have e2:i≠j:=fun q=>by subst q;rw [Nat.beq_refl] at e;cases e
      simp [e2,ih h]
theorem pkU_map {α:Type} {cs:List α}:∀ {is:List Nat} {out:List α},pkU cs is=some out→is.Nodup∧is.map (fun i=>cs[i]?)=out.map some:=by
  intro is
  induction is with
  | nil=>intro out h;cases h;exact ⟨List.nodup_nil,rfl⟩
  | cons i r ih=>
    intro out h
    unfold pkU at h
    cases hn:notinU i r with
    | false=>simp [hn] at h
    | true=>
      cases hc:cs[i]? with
      | none=>simp [hn,hc] at h
      | some c=>
        cases hr:pkU cs r with
        | none=>simp [hn,hc,hr] at h
        | some q=>
          simp only [hn,hc,hr,Option.some.injEq] at h
          subst h
          obtain ⟨h1,h2⟩:=ih hr
          exact ⟨List.nodup_cons.2 ⟨notinU_not hn,h1⟩,by rw [List.map_cons,List.map_cons,h2,hc]⟩
theorem Sep.pk {w:World} {cs out:List Ch} (h:Sep w cs) (is:List Nat) (e:pkU cs is=some out):Sep w out:=h.pick is (pkU_map e).1 (pkU_map e).2
theorem Kn.sb {N:Nat} {l l':List (Nat×Value)} {a:Act} (h:Kn N l a) (ks:List Nat) (e:subU l ks=some l'):Kn N l' a:=h.subs (by
  revert l'
  induction ks with
  | nil=>intro l' e;cases e;rfl
  | cons k r ih=>
    intro l' e
    unfold subU at e
    cases hk:lkU l k with
    | none=>simp [hk] at e
    | some v=>
      cases hr:subU l r with
      | none=>simp [hk,hr] at e
      | some q=>
        simp only [hk,hr,Option.some.injEq] at e
        subst e
        rw [List.map_cons,List.map_cons,ih hr]
        congr 1
        rw [lkU_find] at hk
        cases hf:l.find? (fun y=>y.1 == k) with
        | none=>rw [hf] at hk;cases hk
        | some y=>
          rw [hf] at hk
          have e1:y.1=k:=by simpa using List.find?_some hf
          have e2:y.2=v:=by simpa using hk
          rw [← e1,← e2])

theorem Kn.sk {N:Nat} {l l':List (Nat×Value)} {a:Act} {G:Prop} (h:Kn N l a) (ks:List Nat) (e:subU l ks=some l') (k:Kn N l' a→G):G:=k (h.sb ks e)
/-- a region at the head of a sequence -/
theorem sqr {P:Program} {Q:Exit→Act→World→Prop} {a:Act} {w:World} {id:Nat} {l:List Oper} {d:Code} (h:∀ K:Act→World→Prop,(∀ a w,d.wp P Q a w→K a w)→wpList P l.toArray (Exit.then K Q) l a w):(Code.seq (Code.region id l.toArray false) d).wp P Q a w:=
  wp_seq_k fun K hK=>wp_region_lit (h K hK)
theorem sq {P:Program} {Q:Exit→Act→World→Prop} {a:Act} {w:World} {c d:Code} (h:∀ K:Act→World→Prop,(∀ a w,d.wp P Q a w→K a w)→c.wp P (Exit.then K Q) a w):(Code.seq c d).wp P Q a w:=wp_seq_k h
theorem Kn.sn {P:Program} {ops:Array Oper} {Q:Exit→Act→World→Prop} {w:World} {N:Nat} {l l':List (Nat×Value)} {a:Act} (h:Kn N l a) (ks:List Nat) (e:subU l ks=some l') (k:Kn N l' a→Q .normal a w):wpList P ops Q [] a w:=wpList_nil (k (h.sb ks e))
section
variable {P:Program} {ops:Array Oper} {Q:Exit→Act→World→Prop} {o:Oper} {rest:List Oper} {a:Act} {w w':World} {N:Nat} {l:List (Nat×Value)} {cs cs':List Ch}
theorem valU_run (h:Kn N l a) {v:Value} (e:valU l o.op=some v) (w:World):(execOp a.eval o).run P w=.ok (.value v) w:=by
  unfold valU at e
  split at e
  · next x ho=>exact rmove h ho (by rw [← opU_opv];exact e) w
  · next x ho=>exact rassign h ho (by rw [← opU_opv];exact e) w
  · next x i ho=>
    split at e
    · next vs hx=>exact rext h ho (by rw [← opU_opv];exact hx) (by rw [← Array.getElem?_toList];exact e) w
    · cases e
  · next x ho=>
    split at e
    · next p hx=>cases e;exact rnil h ho (by rw [← opU_opv];exact hx) w
    · next f xs ys hx=>cases e;exact rnilf h ho (by rw [← opU_opv];exact hx) w
    · cases e
  · next T x ho=>
    split at e
    · next b hx=>cases e;exact rnot h ho (by rw [← opU_opv];exact hx) w
    · cases e
  · cases e
/-- a value that the slots give -/
theorem mv (h:Kn N l a) {d:Nat} {v:Value} (e:mvU N l o=some (d,v)) (k:∀ a',Kn N ((d,v)::l) a'→wpList P ops Q rest a' w):wpList P ops Q (o::rest) a w:=by
  unfold mvU at e
  cases hd:dstU N l o with
  | none=>simp [hd] at e
  | some d'=>
    cases hv:valU l o.op with
    | none=>simp [hd,hv,prU] at e
    | some v'=>
      simp only [hd,hv,prU,Option.some.injEq,Prod.mk.injEq] at e
      obtain ⟨e1,e2⟩:=e
      subst e1;subst e2
      obtain ⟨h1,h2,h3,h4⟩:=dstU_spec hd
      exact sv h (wanted_none h1) h2 h3 h4 (valU_run h hv) k
/-- a value by its own law -/
theorem sv1 (h:Kn N l a) {d:Nat} (e:dstU N l o=some d) {v:Value} (hr:∀ w,(execOp a.eval o).run P w=.ok (.value v) w) (k:∀ a',Kn N ((d,v)::l) a'→wpList P ops Q rest a' w):wpList P ops Q (o::rest) a w:=by
  obtain ⟨h1,h2,h3,h4⟩:=dstU_spec e
  exact sv h (wanted_none h1) h2 h3 h4 hr k
theorem sw1 (h:Kn N l a) {d:Nat} (e:dstU N l o=some d) {v:Value} (hr:(execOp a.eval o).run P w=.ok (.value v) w) (k:∀ a',Kn N ((d,v)::l) a'→wpList P ops Q rest a' w):wpList P ops Q (o::rest) a w:=by
  obtain ⟨h1,h2,h3,h4⟩:=dstU_spec e
  exact sw h (wanted_none h1) h2 h3 h4 hr k
def faU (N:Nat) (l:List (Nat×Value)) (o:Oper):Option (Nat×TypeId×Value×Nat):=
  match dstU N l o with
  | none=>none
  | some d=>match o.op with
    | .fieldAddr T x f=>match opU l x with
      | some v=>some (d,T,v,f)
      | none=>none
    | _=>none
theorem fav (h:Kn N l a) {d f:Nat} {T:TypeId} {v u:Value} (e:faU N l o=some (d,T,v,f)) (hf:∀ w,(Instr.fieldAt T v f).run P w=.ok u w) (k:∀ a',Kn N ((d,u)::l) a'→wpList P ops Q rest a' w):wpList P ops Q (o::rest) a w:=by
  unfold faU at e
  cases hd:dstU N l o with
  | none=>simp [hd] at e
  | some d'=>
    simp only [hd] at e
    split at e
    · next T' x f' ho=>
      split at e
      · next v' hx=>
        cases e
        exact sv1 h hd (rfa h ho (by rw [← opU_opv];exact hx) hf) k
      · cases e
    · cases e
def ldU (N:Nat) (l:List (Nat×Value)) (o:Oper):Option (Nat×TypeId×Nat×Nat):=
  match dstU N l o with
  | none=>none
  | some d=>match o.op with
    | .load T x=>match opU l x with
      | some (.pointer (some ⟨g,off,none⟩))=>some (d,T,g,off)
      | _=>none
    | _=>none
theorem ldv (h:Kn N l a) (hS:Sep w cs) (i:Nat) {d g off:Nat} {T ty:TypeId} {kd:TypeDesc} {L:List Value} {v:Value} (hu:P.underlying T=some kd) (e:ldU N l o=some (d,T,g,off)) (hk:kd.isRow=false) (hi:cs[i]? = some (blkC g ty L)) (hv:L[off]? = some v) (k:∀ a',Kn N ((d,v)::l) a'→wpList P ops Q rest a' w):wpList P ops Q (o::rest) a w:=by
  unfold ldU at e
  cases hd:dstU N l o with
  | none=>simp [hd] at e
  | some d'=>
    simp only [hd] at e
    split at e
    · next T' x ho=>
      split at e
      · next g' off' hx=>
        cases e
        exact sw1 h hd (rld h ho (by rw [← opU_opv];exact hx) (ldB hu hk (hS.get i hi:Blk _ _ _ _) hv)) k
      · cases e
    · cases e
def biU (N:Nat) (l:List (Nat×Value)) (o:Oper):Option (Nat×BinOp×TypeId×Operand×Operand×Value×Value):=
  match dstU N l o with
  | none=>none
  | some d=>match o.op with
    | .binOp b T x y _=>match opU l x,opU l y with
      | some v,some u=>some (d,b,T,x,y,v,u)
      | _,_=>none
    | _=>none
theorem bv (h:Kn N l a) {d:Nat} {b:BinOp} {T:TypeId} {x y:Operand} {v u z:Value} (e:biU N l o=some (d,b,T,x,y,v,u)) (hf:∀ w,(do eqGuard b T x y v u;binOp b T v u:Sem Value).run P w=.ok z w) (k:∀ a',Kn N ((d,z)::l) a'→wpList P ops Q rest a' w):wpList P ops Q (o::rest) a w:=by
  unfold biU at e
  cases hd:dstU N l o with
  | none=>simp [hd] at e
  | some d'=>
    simp only [hd] at e
    split at e
    · next b' T' x' y' ty ho=>
      split at e
      · next v' u' hx hy=>
        cases e
        exact sv1 h hd (rbin h ho (by rw [← opU_opv];exact hx) (by rw [← opU_opv];exact hy) hf) k
      · cases e
    · cases e
def apU:List Value→List Value→Option (List Value)
  | [],b=>some b
  | c::r,b=>match apU r b with
    | some s=>some (c::s)
    | none=>none
theorem apU_app:∀ {x y z:List Value},apU x y=some z→z=x++y:=by
  intro x
  induction x with
  | nil=>intro y z h;cases h;rfl
  | cons c r ih=>
    intro y z h
    unfold apU at h
    cases e:apU r y with
    | none=>simp [e] at h
    | some s=>
      simp only [e,Option.some.injEq] at h
      subst h
      rw [ih e];rfl
def clU (N:Nat) (l:List (Nat×Value)) (o:Oper):Option (Nat×FuncId×List Value):=
  match dstU N l o with
  | none=>none
  | some d=>match o.op with
    | .call { callee:=.value f,args:=xs,.. }=>match opU l f with
      | some (.func (.func fn) first cap)=>match opsU l xs.toList with
        | some vs=>match apU vs cap.toList with
          | some v1=>match apU first.toList v1 with
            | some v2=>some (d,fn,v2)
            | none=>none
          | none=>none
        | none=>none
      | _=>none
    | _=>none
theorem clU_spec {d:Nat} {fn:FuncId} {zs:List Value} (e:clU N l o=some (d,fn,zs)):dstU N l o=some d∧∃ (f:Operand) (xs:List Operand) (ts:Array TypeId) (first cap:Array Value) (vs:List Value),o.op=.call { callee:=.value f,args:=xs.toArray,argTypes:=ts }∧opv l f=some (.func (.func fn) first cap)∧xs.map (opv l)=vs.map some∧first++vs.toArray++cap=zs.toArray:=by
  unfold clU at e
  cases hd:dstU N l o with
  | none=>simp [hd] at e
  | some d'=>
    simp only [hd] at e
    split at e
    · next f xs ts ho=>
      split at e
      · next fn' first cap hf=>
        split at e
        · next vs hv=>
          split at e
          · next v1 h1=>
            split at e
            · next v2 h2=>
              cases e
              refine ⟨rfl,f,xs.toList,ts,first,cap,vs,by simpa using ho,by rw [← opU_opv];exact hf,opsU_map hv,?_⟩
              have e1:=apU_app h1
              have e2:=apU_app h2
              subst e1;subst e2
              apply Array.toList_inj.1
              simp
            · cases e
          · cases e
        · cases e
      · cases e
    · cases e
theorem cl (h:Kn N l a) {d:Nat} {fn:FuncId} {vs:List Value} (e:clU N l o=some (d,fn,vs)) (hcf:∀ args w,(callFunc fn args).run P w=.ok (.enter fn args) w) {R:Value→World→Prop} (HC:CallsR P fn vs.toArray w R)
    (k:∀ a' v w',R v w'→Kn N ((d,v)::l) a'→wpList P ops Q rest a' w'):wpList P ops Q (o::rest) a w:=by
  obtain ⟨e0,f,xs,ts,first,cap,us,ho,hf,hv,ha⟩:=clU_spec e
  obtain ⟨h1,h2,h3,h4⟩:=dstU_spec e0
  exact so (wanted_none h1) fun K hK=>xcall h h2 h3 h4 ho hcf hf hv ha HC fun a' v w' r h'=>hK _ _ (k a' v w' r h')
def stU (l:List (Nat×Value)) (o:Oper):Option (TypeId×Nat×Nat×Value):=
  match o.guard,o.dst with
  | none,none=>match o.op with
    | .store T x y=>match opU l x,opU l y with
      | some (.pointer (some ⟨g,off,none⟩)),some u=>some (T,g,off,u)
      | _,_=>none
    | _=>none
  | _,_=>none
theorem stU_spec {T:TypeId} {g off:Nat} {u:Value} (e:stU l o=some (T,g,off,u)):o.guard=none∧o.dst=none∧∃ x y,o.op=.store T x y∧opv l x=some (.pointer (some ⟨g,off,none⟩))∧opv l y=some u:=by
  unfold stU at e
  split at e
  · next h1 h2=>
    split at e
    · next T' x y ho=>
      split at e
      · next g' off' u' hx hy=>
        cases e
        exact ⟨h1,h2,x,y,ho,by rw [← opU_opv];exact hx,by rw [← opU_opv];exact hy⟩
      · cases e
    · cases e
  · cases e
theorem spl1 {α:Type} (L:List α) (i:Nat) (v:α) (h:i<L.length):splice L i [v]=L.set i v:=by
  unfold splice
  rw [List.set_eq_take_append_cons_drop,if_pos h];rfl
/-- a store of one cell -/
theorem st1 (h:Kn N l a) (hS:Sep w cs) (i:Nat) {T ty:TypeId} {g off:Nat} {u:Value} {L L':List Value} (e:stU l o=some (T,g,off,u)) (hi:cs[i]? = some (blkC g ty L)) (hn:(P.info? T).map (·.size)=some 1) (hu:u.cells=#[u]) (h1:u.oneCell'=true) (hL:setU L off u=some L') (hcs:setU cs i (blkC g ty L')=some cs')
    (k:∀ a' w',Kn N l a'→Sep w' cs'→Turns (fun k=>k=g) w w'→wpList P ops Q rest a' w'):wpList P ops Q (o::rest) a w:=by
  obtain ⟨h2,h3,x,y,ho,hx,hy⟩:=stU_spec e
  obtain ⟨eL,hlt⟩:=setU_set hL
  obtain ⟨ec,_⟩:=setU_set hcs
  refine so (wanted_none h2) fun K hK=>xstore h h3 ho hS i hi hx hy [u] (by rw [hu]) hn (by simp [h1]) (Nat.succ_le_of_lt hlt) (L':=L') ?_ ec.symm fun a' w' h' s' t=>hK _ _ (k a' w' h' s' t)
  rw [eL]
  exact spl1 L off u hlt
/-- a store of several cells -/
theorem stM (h:Kn N l a) (hS:Sep w cs) (i:Nat) {T ty:TypeId} {g off:Nat} {u:Value} {L L' vs:List Value} (e:stU l o=some (T,g,off,u)) (hi:cs[i]? = some (blkC g ty L)) (hu:u.cells=vs.toArray) (hn:(P.info? T).map (·.size)=some vs.length) (h1:vs.all (·.oneCell')=true) (hlt:off+vs.length≤L.length) (hL:splice L off vs=L') (hcs:setU cs i (blkC g ty L')=some cs')
    (k:∀ a' w',Kn N l a'→Sep w' cs'→Turns (fun k=>k=g) w w'→wpList P ops Q rest a' w'):wpList P ops Q (o::rest) a w:=by
  obtain ⟨h2,h3,x,y,ho,hx,hy⟩:=stU_spec e
  obtain ⟨ec,_⟩:=setU_set hcs
  exact so (wanted_none h2) fun K hK=>xstore h h3 ho hS i hi hx hy vs hu hn h1 hlt hL ec.symm fun a' w' h' s' t=>hK _ _ (k a' w' h' s' t)
/-- a whole block is stored -/
theorem stA (h:Kn N l a) (hS:Sep w cs) (i:Nat) {T ty:TypeId} {g off:Nat} {u:Value} {L vs:List Value} (e:stU l o=some (T,g,off,u)) (hi:cs[i]? = some (blkC g ty L)) (hu:u.cells=vs.toArray) (hn:(P.info? T).map (·.size)=some vs.length) (h1:vs.all (·.oneCell')=true) (h0:off=0) (hl:vs.length=L.length) (hcs:setU cs i (blkC g ty vs)=some cs')
    (k:∀ a' w',Kn N l a'→Sep w' cs'→Turns (fun k=>k=g) w w'→wpList P ops Q rest a' w'):wpList P ops Q (o::rest) a w:=by
  subst h0
  refine stM h hS i e hi hu hn h1 (by omega) (L':=vs) ?_ hcs k
  unfold splice
  rw [List.take_zero,List.drop_of_length_le (by omega)];simp
/-- several values one after another -/
def mvsU (N:Nat):Nat→List (Nat×Value)→List Oper→Option (List (Nat×Value)×List Oper)
  | 0,l,os=>some (l,os)
  | _+1,_,[]=>none
  | n+1,l,o::os=>match mvU N l o with
    | none=>none
    | some y=>mvsU N n (y::l) os
theorem mvs:∀ (n:Nat) {l l':List (Nat×Value)} {os rest:List Oper} {a:Act},Kn N l a→mvsU N n l os=some (l',rest)→(∀ a',Kn N l' a'→wpList P ops Q rest a' w)→wpList P ops Q os a w
  | 0,_,_,_,_,_,h,e,k=>by cases e;exact k _ h
  | _+1,_,_,[],_,_,_,e,_=>by cases e
  | n+1,l,l',o::os,rest,a,h,e,k=>by
    unfold mvsU at e
    cases hm:mvU N l o with
    | none=>simp [hm] at e
    | some y=>
      simp only [hm] at e
      exact mv h hm fun a' h'=>mvs n h' e k
variable {md:Region.Mode} {S:World→Prop} {fuel:Nat} {listed:Array Bool}
theorem tv1 (hS:S w) (h:Kn N l a) (i:Nat) (hi:ops[i]? = some o) {d:Nat} (e:dstU N l o=some d) {v:Value} (hy:∀ w1,S w1→(execOp a.eval o).run P w1=.ok (.value v) w1)
    (k:∀ a',Kn N ((d,v)::l) a'→wpAnyH P md ops Q S fuel (listed.setIfInBounds i true) a' w)
    (hs:Region.noSelect ops=true:=by kernel_rfl) (hfr:Region.free md ops listed i=true:=by kernel_rfl) (hr:(Region.ready md ops listed).contains i=true:=by kernel_rfl) (hQ:∀ c a w v,Q (.panic c) (a.put o.dst v) w→Q (.panic c) a w:=by exact fun _ _ _ _ h=>h):wpAnyH P md ops Q S (fuel+1) listed a w:=by
  obtain ⟨h1,h2,h3,h4⟩:=dstU_spec e
  exact tv hS h i hi h2 h3 h4 hs hfr hr hQ (wanted_none h1) hy k
theorem rC {fn:Func} {R:Value→World→Prop} (hK:Kn N l a) (hS:Sep w cs) (i:Nat) {c g:Nat} {T e:TypeId} {L:List Value} {k:TypeDesc} (hu:P.underlying T=some k) (h:fn.results=#[.cell c T]) (hc:opU l (.tmp c)=some (.pointer (some ⟨g,0,none⟩))) (hi:cs[i]? = some (blkC g e L)) (hk:k.isRow=true) (kk:R (.agg L.toArray) w) (hn:(P.info? T).map (·.size)=some L.length:=by kernel_rfl):bodyPost P fn (fun e w'=>∃ v,e=.returned v∧R v w') .ret a w:=
  retRw (resC hK h (by rw [← opU_opv];exact hc) (hS.get i hi:Blk _ _ _ _) hu hk hn) hK.defs kk
theorem rCt {fn:Func} {R:Value→World→Prop} (hK:Kn N l a) (hS:Sep w cs) (i:Nat) {c u g:Nat} {T e:TypeId} {L:List Value} {k:TypeDesc} {v:Value} (hu:P.underlying T=some k) (h:fn.results=#[.cell c T,.tmp u]) (hc:opU l (.tmp c)=some (.pointer (some ⟨g,0,none⟩))) (hv:opU l (.tmp u)=some v) (hi:cs[i]? = some (blkC g e L)) (hk:k.isRow=true) (kk:R (.tuple #[.agg L.toArray,v]) w) (hn:(P.info? T).map (·.size)=some L.length:=by kernel_rfl):bodyPost P fn (fun e w'=>∃ v,e=.returned v∧R v w') .ret a w:=
  retRw (resCt hK h (by rw [← opU_opv];exact hc) (by rw [← opU_opv];exact hv) (hS.get i hi:Blk _ _ _ _) hu hk hn) hK.defs kk
theorem wcF {cd:Operand} {x y:Code} {t:Bool} (h:Kn N l a) (hx:opU l cd=some (.bool t)) (ht:t=false) (k:y.wp P Q a w):(Code.cond cd x y).wp P Q a w:=wp_condS (b:=false) h (by rw [← opU_opv];exact hx) ht (by simpa using k)
theorem wcT {cd:Operand} {x y:Code} {t:Bool} (h:Kn N l a) (hx:opU l cd=some (.bool t)) (ht:t=true) (k:x.wp P Q a w):(Code.cond cd x y).wp P Q a w:=wp_condS (b:=true) h (by rw [← opU_opv];exact hx) ht (by simpa using k)
def partsU (l:List (Nat×Value)):List (Nat×Operand)→Option (List (Nat×Value))
  | []=>some []
  | (i,x)::r=>match opU l x,partsU l r with
    | some v,some vs=>some ((i,v)::vs)
    | _,_=>none
theorem partsU_map {l:List (Nat×Value)}:∀ {xs:List (Nat×Operand)} {vs:List (Nat×Value)},partsU l xs=some vs→xs.map (fun p=>(p.1,opv l p.2))=vs.map (fun p=>(p.1,some p.2)):=by
  intro xs
  induction xs with
  | nil=>intro vs h;cases h;rfl
  | cons y r ih=>
    obtain ⟨i,x⟩:=y
    intro vs h
    unfold partsU at h
    cases hx:opU l x with
    | none=>simp [hx] at h
    | some v=>
      cases hr:partsU l r with
      | none=>simp [hx,hr] at h
      | some us=>
        simp only [hx,hr,Option.some.injEq] at h
        subst h
        rw [List.map_cons,List.map_cons,ih hr,← opU_opv,hx]
def buU (N:Nat) (l:List (Nat×Value)) (o:Oper):Option (Nat×TypeId×List (Nat×Value)):=
  match dstU N l o with
  | none=>none
  | some d=>match o.op with
    | .build T xs=>match partsU l xs.toList with
      | some vs=>some (d,T,vs)
      | none=>none
    | _=>none
theorem bu (h:Kn N l a) {d:Nat} {T:TypeId} {vs:List (Nat×Value)} {v:Value} (e:buU N l o=some (d,T,vs)) (hv:∀ w,(Instr.build T vs.toArray).run P w=.ok v w) (k:∀ a',Kn N ((d,v)::l) a'→wpList P ops Q rest a' w):wpList P ops Q (o::rest) a w:=by
  unfold buU at e
  cases hd:dstU N l o with
  | none=>simp [hd] at e
  | some d'=>
    simp only [hd] at e
    split at e
    · next T' xs ho=>
      split at e
      · next vs' hp=>
        cases e
        exact sv1 h hd (rbuild h (xs:=xs.toList) (by simpa using ho) (partsU_map hp) hv) k
      · cases e
    · cases e
theorem bC (b:Bool):b=true∨b=false:=Bool.eq_false_or_eq_true b
theorem dT {p:Prop} [Decidable p] (h:decide p=true):p:=of_decide_eq_true h
theorem dF {p:Prop} [Decidable p] (h:decide p=false):¬ p:=of_decide_eq_false h
end
end Go.Proofs.YtpdjnefgkcmdnaaGreatDoor
