/- Parts of the proof. -/
import Derived.Lib.SliceRun
import Derived.Deep.RegionLaw
import Derived.Laws.BitsAllLaws
import Derived.RangeFuncNested
import Derived.RangeFuncBound
import Derived.RangeFuncCalls
import Derived.RangeFuncLeaves
import Derived.OwnWalkIn
import Derived.TacticsInMore
import Derived.LoopNIn
import Derived.LoopIn
import Derived.Laws.EntriesVeiled
import Derived.Test.YtpnknncmacjdkaaGreatDoorQaa
namespace Go.Proofs.YtpnknncmacjdkaaGreatDoor
open Go.RowKit
open _root_.Go.Proofs.Tryz
set_option linter.unusedSimpArgs false
set_option linter.unusedVariables false
set_option linter.unusedSectionVars false
set_option maxRecDepth 100000
set_option maxHeartbeats 8000000
section
def lkU:List (Nat×Value)→Nat→Option Value
  | [],_=>none
  | (k,v)::r,n=>match Nat.beq k n with
    | true=>some v
    | false=>lkU r n
def opU (l:List (Nat×Value)):Operand→Option Value
  | .tmp k=>lkU l k
  | .const v=>some v
  | .global g=>some (.pointer (some ⟨g,0,none⟩))
  | .func f=>some (.func (.func f) #[] #[])
def Yo (l:List (Nat×Value)):List Operand→Option (List Value)
  | []=>some []
  | x::r=>match opU l x,Yo l r with
    | some v,some vs=>some (v::vs)
    | _,_=>none
def frU:List (Nat×Value)→Nat→Bool
  | [],_=>true
  | (k,_)::r,d=>match Nat.beq k d with
    | true=>false
    | false=>frU r d
def prU (d:Nat):Option Value→Option (Nat×Value)
  | some v=>some (d,v)
  | none=>none
def GN (N:Nat) (l:List (Nat×Value)) (o:Oper):Option Nat:=
  match o.guard with
  | some _=>none
  | none=>match o.dst with
    | none=>none
    | some d=>match Nat.ble (d+1) N with
      | false=>none
      | true=>match frU l d with
        | false=>none
        | true=>some d
def Abz (l:List (Nat×Value)):Op→Option Value
  | .move x=>opU l x
  | .assign x=>opU l x
  | .extract x i=>match opU l x with
    | some (.tuple vs)=>vs.toList[i]?
    | _=>none
  | .nilCheck x=>match opU l x with
    | some (.pointer (some p))=>some (.pointer (some p))
    | some (.func (.func f) xs ys)=>some (.func (.func f) xs ys)
    | _=>none
  | .unOp .not _ x=>match opU l x with
    | some (.bool b)=>some (.bool !b)
    | _=>none
  | _=>none
def mvU (N:Nat) (l:List (Nat×Value)) (o:Oper):Option (Nat×Value):=
  match GN N l o with
  | none=>none
  | some d=>prU d (Abz l o.op)
def QT {α:Type}:List α→Nat→α→Option (List α)
  | [],_,_=>none
  | _::r,0,x=>some (x::r)
  | c::r,i+1,x=>match QT r i x with
    | some s=>some (c::s)
    | none=>none
def LX:Nat→List Nat→Bool
  | _,[]=>true
  | i,j::r=>match Nat.beq i j with
    | true=>false
    | false=>LX i r
def pkU {α:Type} (cs:List α):List Nat→Option (List α)
  | []=>some []
  | i::is=>match LX i is with
    | false=>none
    | true=>match cs[i]? with
      | none=>none
      | some c=>match pkU cs is with
        | none=>none
        | some r=>some (c::r)
def Wn (l:List (Nat×Value)):List Nat→Option (List (Nat×Value))
  | []=>some []
  | k::ks=>match lkU l k with
    | none=>none
    | some v=>match Wn l ks with
      | none=>none
      | some r=>some ((k,v)::r)
theorem Qc (l:List (Nat×Value)) (n:Nat):lkU l n=(l.find? fun y=>y.1 == n).map (·.2):=by
  induction l with
  | nil=>rfl
  | cons y r ih=>
    obtain ⟨k,v⟩:=y
    cases e:Nat.beq k n with
    | true=>
      have e2:(k == n)=true:=beq_iff_eq.2 (Nat.eq_of_beq_eq_true e)
      simp [lkU,e,e2]
    | false=>
      have e2:(k == n)=false:=beq_eq_false_iff_ne.2 (Nat.ne_of_beq_eq_false e)
      simp only [lkU,e,List.find?_cons,e2,ih]
theorem Ci (l:List (Nat×Value)) (x:Operand):opU l x=opv l x:=by
  cases x with
  | tmp k=>exact Qc l k
  | _=>rfl
theorem Yp {l:List (Nat×Value)}:∀ {xs:List Operand} {vs:List Value},Yo l xs=some vs→xs.map (opv l)=vs.map some:=by
  intro xs
  induction xs with
  | nil=>intro vs h;cases h;rfl
  | cons x r ih=>
    intro vs h
    unfold Yo at h
    cases hx:opU l x with
    | none=>simp [hx] at h
    | some v=>
      cases hr:Yo l r with
      | none=>simp [hx,hr] at h
      | some us=>
        simp only [hx,hr,Option.some.injEq] at h
        subst h
        rw [List.map_cons,List.map_cons,ih hr,← Ci,hx]
theorem Aaa {l:List (Nat×Value)} {d:Nat} (h:frU l d=true):l.all (fun x=>!(x.1 == d))=true:=by
  induction l with
  | nil=>rfl
  | cons y r ih=>
    obtain ⟨k,v⟩:=y
    unfold frU at h
    cases e:Nat.beq k d with
    | true=>simp [e] at h
    | false=>
      simp only [e] at h
      have e2:(k == d)=false:=beq_eq_false_iff_ne.2 (Nat.ne_of_beq_eq_false e)
      simp only [List.all_cons,e2,ih h];rfl
theorem FV {N:Nat} {l:List (Nat×Value)} {o:Oper} {d:Nat} (h:GN N l o=some d):o.guard=none∧o.dst=some d∧decide (d<N)=true∧l.all (fun x=>!(x.1 == d))=true:=by
  unfold GN at h
  cases hg:o.guard with
  | some g=>simp [hg] at h
  | none=>
    cases hd:o.dst with
    | none=>simp [hg,hd] at h
    | some e=>
      cases hn:Nat.ble (e+1) N with
      | false=>simp [hg,hd,hn] at h
      | true=>
        cases hf:frU l e with
        | false=>simp [hg,hd,hn,hf] at h
        | true=>
          simp only [hg,hd,hn,hf,Option.some.injEq] at h
          subst h
          exact ⟨rfl,rfl,decide_eq_true (Nat.le_of_ble_eq_true hn),Aaa hf⟩
theorem MJ {α:Type}:∀ {L:List α} {i:Nat} {x:α} {L':List α},QT L i x=some L'→L'=L.set i x∧i<L.length:=by
  intro L
  induction L with
  | nil=>intro i x L' h;cases h
  | cons c r ih=>
    intro i x L' h
    cases i with
    | zero=>cases h;exact ⟨rfl,Nat.succ_pos _⟩
    | succ i=>
      unfold QT at h
      cases e:QT r i x with
      | none=>simp [e] at h
      | some s=>
        simp only [e,Option.some.injEq] at h
        subst h
        obtain ⟨e1,e2⟩:=ih e
        exact ⟨by rw [e1];rfl,Nat.succ_lt_succ e2⟩
theorem Sx {i:Nat} {js:List Nat} (h:LX i js=true):i∉js:=by
  induction js with
  | nil=>simp
  | cons j r ih=>
    unfold LX at h
    cases e:Nat.beq i j with
    | true=>simp [e] at h
    | false=>
      simp only [e] at h
      have e2:i≠j:=fun q=>by subst q;rw [Nat.beq_refl] at e;cases e
      simp [e2,ih h]
theorem Ui {α:Type} {cs:List α}:∀ {is:List Nat} {out:List α},pkU cs is=some out→is.Nodup∧is.map (fun i=>cs[i]?)=out.map some:=by
  intro is
  induction is with
  | nil=>intro out h;cases h;exact ⟨List.nodup_nil,rfl⟩
  | cons i r ih=>
    intro out h
    unfold pkU at h
    cases hn:LX i r with
    | false=>simp [hn] at h
    | true=>
      cases hc:cs[i]? with
      | none=>simp [hn,hc] at h
      | some c=>
        cases hr:pkU cs r with
        | none=>simp [hn,hc,hr] at h
        | some q=>
          simp only [hn,hc,hr,Option.some.injEq] at h
          subst h
          obtain ⟨h1,h2⟩:=ih hr
          exact ⟨List.nodup_cons.2 ⟨Sx hn,h1⟩,by rw [List.map_cons,List.map_cons,h2,hc]⟩
theorem Sep.pk {w:World} {cs out:List Ch} (h:Sep w cs) (is:List Nat) (e:pkU cs is=some out):Sep w out:=h.pick is (Ui e).1 (Ui e).2
theorem Kn.sb {N:Nat} {l l':List (Nat×Value)} {a:Act} (h:Kn N l a) (ks:List Nat) (e:Wn l ks=some l'):Kn N l' a:=h.subs (by
  revert l'
  induction ks with
  | nil=>intro l' e;cases e;rfl
  | cons k r ih=>
    intro l' e
    unfold Wn at e
    cases hk:lkU l k with
    | none=>simp [hk] at e
    | some v=>
      cases hr:Wn l r with
      | none=>simp [hk,hr] at e
      | some q=>
        simp only [hk,hr,Option.some.injEq] at e
        subst e
        rw [List.map_cons,List.map_cons,ih hr]
        congr 1
        rw [Qc] at hk
        cases hf:l.find? (fun y=>y.1 == k) with
        | none=>rw [hf] at hk;cases hk
        | some y=>
          rw [hf] at hk
          have e1:y.1=k:=by simpa using List.find?_some hf
          have e2:y.2=v:=by simpa using hk
          rw [← e1,← e2])
theorem Kn.sk {N:Nat} {l l':List (Nat×Value)} {a:Act} {G:Prop} (h:Kn N l a) (ks:List Nat) (e:Wn l ks=some l') (k:Kn N l' a→G):G:=k (h.sb ks e)
theorem sqr {P:Program} {Q:Exit→Act→World→Prop} {a:Act} {w:World} {id:Nat} {l:List Oper} {d:Code} (h:∀ K:Act→World→Prop,(∀ a w,d.wp P Q a w→K a w)→wpList P l.toArray (Exit.then K Q) l a w):(Code.seq (Code.region id l.toArray false) d).wp P Q a w:=
  wp_seq_k fun K hK=>wp_region_lit (h K hK)
theorem sq {P:Program} {Q:Exit→Act→World→Prop} {a:Act} {w:World} {c d:Code} (h:∀ K:Act→World→Prop,(∀ a w,d.wp P Q a w→K a w)→c.wp P (Exit.then K Q) a w):(Code.seq c d).wp P Q a w:=wp_seq_k h
theorem Kn.sn {P:Program} {ops:Array Oper} {Q:Exit→Act→World→Prop} {w:World} {N:Nat} {l l':List (Nat×Value)} {a:Act} (h:Kn N l a) (ks:List Nat) (e:Wn l ks=some l') (k:Kn N l' a→Q .normal a w):wpList P ops Q [] a w:=wpList_nil (k (h.sb ks e))
section
variable {P:Program} {ops:Array Oper} {Q:Exit→Act→World→Prop} {o:Oper} {rest:List Oper} {a:Act} {w w':World} {N:Nat} {l:List (Nat×Value)} {cs cs':List Ch}
theorem Zk (h:Kn N l a) {v:Value} (e:Abz l o.op=some v) (w:World):(execOp a.eval o).run P w=.ok (.value v) w:=by
  unfold Abz at e
  split at e
  · next x ho=>exact Au h ho (by rw [← Ci];exact e) w
  · next x ho=>exact Bv h ho (by rw [← Ci];exact e) w
  · next x i ho=>
    split at e
    · next vs hx=>exact OY h ho (by rw [← Ci];exact hx) (by rw [← Array.getElem?_toList];exact e) w
    · cases e
  · next x ho=>
    split at e
    · next p hx=>cases e;exact Hl h ho (by rw [← Ci];exact hx) w
    · next f xs ys hx=>cases e;exact Afv h ho (by rw [← Ci];exact hx) w
    · cases e
  · next T x ho=>
    split at e
    · next b hx=>cases e;exact Aeb h ho (by rw [← Ci];exact hx) w
    · cases e
  · cases e
theorem mv (h:Kn N l a) {d:Nat} {v:Value} (e:mvU N l o=some (d,v)) (k:∀ a',Kn N ((d,v)::l) a'→wpList P ops Q rest a' w):wpList P ops Q (o::rest) a w:=by
  unfold mvU at e
  cases hd:GN N l o with
  | none=>simp [hd] at e
  | some d'=>
    cases hv:Abz l o.op with
    | none=>simp [hd,hv,prU] at e
    | some v'=>
      simp only [hd,hv,prU,Option.some.injEq,Prod.mk.injEq] at e
      obtain ⟨e1,e2⟩:=e
      subst e1;subst e2
      obtain ⟨h1,h2,h3,h4⟩:=FV hd
      exact sv h (Aa h1) h2 h3 h4 (Zk h hv) k
theorem sv1 (h:Kn N l a) {d:Nat} (e:GN N l o=some d) {v:Value} (hr:∀ w,(execOp a.eval o).run P w=.ok (.value v) w) (k:∀ a',Kn N ((d,v)::l) a'→wpList P ops Q rest a' w):wpList P ops Q (o::rest) a w:=by
  obtain ⟨h1,h2,h3,h4⟩:=FV e
  exact sv h (Aa h1) h2 h3 h4 hr k
theorem sw1 (h:Kn N l a) {d:Nat} (e:GN N l o=some d) {v:Value} (hr:(execOp a.eval o).run P w=.ok (.value v) w) (k:∀ a',Kn N ((d,v)::l) a'→wpList P ops Q rest a' w):wpList P ops Q (o::rest) a w:=by
  obtain ⟨h1,h2,h3,h4⟩:=FV e
  exact sw h (Aa h1) h2 h3 h4 hr k
def faU (N:Nat) (l:List (Nat×Value)) (o:Oper):Option (Nat×TypeId×Value×Nat):=
  match GN N l o with
  | none=>none
  | some d=>match o.op with
    | .fieldAddr T x f=>match opU l x with
      | some v=>some (d,T,v,f)
      | none=>none
    | _=>none
theorem fav (h:Kn N l a) {d f:Nat} {T:TypeId} {v u:Value} (e:faU N l o=some (d,T,v,f)) (hf:∀ w,(Instr.fieldAt T v f).run P w=.ok u w) (k:∀ a',Kn N ((d,u)::l) a'→wpList P ops Q rest a' w):wpList P ops Q (o::rest) a w:=by
  unfold faU at e
  cases hd:GN N l o with
  | none=>simp [hd] at e
  | some d'=>
    simp only [hd] at e
    split at e
    · next T' x f' ho=>
      split at e
      · next v' hx=>
        cases e
        exact sv1 h hd (rfa h ho (by rw [← Ci];exact hx) hf) k
      · cases e
    · cases e
def ldU (N:Nat) (l:List (Nat×Value)) (o:Oper):Option (Nat×TypeId×Nat×Nat):=
  match GN N l o with
  | none=>none
  | some d=>match o.op with
    | .load T x=>match opU l x with
      | some (.pointer (some ⟨g,off,none⟩))=>some (d,T,g,off)
      | _=>none
    | _=>none
theorem ldv (h:Kn N l a) (hS:Sep w cs) (i:Nat) {d g off:Nat} {T ty:TypeId} {kd:TypeDesc} {L:List Value} {v:Value} (hu:P.underlying T=some kd) (e:ldU N l o=some (d,T,g,off)) (hk:kd.isRow=false) (hi:cs[i]? = some (Ab g ty L)) (hv:L[off]? = some v) (k:∀ a',Kn N ((d,v)::l) a'→wpList P ops Q rest a' w):wpList P ops Q (o::rest) a w:=by
  unfold ldU at e
  cases hd:GN N l o with
  | none=>simp [hd] at e
  | some d'=>
    simp only [hd] at e
    split at e
    · next T' x ho=>
      split at e
      · next g' off' hx=>
        cases e
        exact sw1 h hd (rld h ho (by rw [← Ci];exact hx) (ldB hu hk (hS.get i hi:Blk _ _ _ _) hv)) k
      · cases e
    · cases e
def biU (N:Nat) (l:List (Nat×Value)) (o:Oper):Option (Nat×BinOp×TypeId×Operand×Operand×Value×Value):=
  match GN N l o with
  | none=>none
  | some d=>match o.op with
    | .binOp b T x y _=>match opU l x,opU l y with
      | some v,some u=>some (d,b,T,x,y,v,u)
      | _,_=>none
    | _=>none
theorem bv (h:Kn N l a) {d:Nat} {b:BinOp} {T:TypeId} {x y:Operand} {v u z:Value} (e:biU N l o=some (d,b,T,x,y,v,u)) (hf:∀ w,(do eqGuard b T x y v u;binOp b T v u:Sem Value).run P w=.ok z w) (k:∀ a',Kn N ((d,z)::l) a'→wpList P ops Q rest a' w):wpList P ops Q (o::rest) a w:=by
  unfold biU at e
  cases hd:GN N l o with
  | none=>simp [hd] at e
  | some d'=>
    simp only [hd] at e
    split at e
    · next b' T' x' y' ty ho=>
      split at e
      · next v' u' hx hy=>
        cases e
        exact sv1 h hd (Co h ho (by rw [← Ci];exact hx) (by rw [← Ci];exact hy) hf) k
      · cases e
    · cases e
def apU:List Value→List Value→Option (List Value)
  | [],b=>some b
  | c::r,b=>match apU r b with
    | some s=>some (c::s)
    | none=>none
theorem TB:∀ {x y z:List Value},apU x y=some z→z=x++y:=by
  intro x
  induction x with
  | nil=>intro y z h;cases h;rfl
  | cons c r ih=>
    intro y z h
    unfold apU at h
    cases e:apU r y with
    | none=>simp [e] at h
    | some s=>
      simp only [e,Option.some.injEq] at h
      subst h
      rw [ih e];rfl
def clU (N:Nat) (l:List (Nat×Value)) (o:Oper):Option (Nat×FuncId×List Value):=
  match GN N l o with
  | none=>none
  | some d=>match o.op with
    | .call { callee:=.value f,args:=xs,.. }=>match opU l f with
      | some (.func (.func fn) first cap)=>match Yo l xs.toList with
        | some vs=>match apU vs cap.toList with
          | some v1=>match apU first.toList v1 with
            | some v2=>some (d,fn,v2)
            | none=>none
          | none=>none
        | none=>none
      | _=>none
    | _=>none
theorem WT {d:Nat} {fn:FuncId} {zs:List Value} (e:clU N l o=some (d,fn,zs)):GN N l o=some d∧∃ (f:Operand) (xs:List Operand) (ts:Array TypeId) (first cap:Array Value) (vs:List Value),o.op=.call { callee:=.value f,args:=xs.toArray,argTypes:=ts }∧opv l f=some (.func (.func fn) first cap)∧xs.map (opv l)=vs.map some∧first++vs.toArray++cap=zs.toArray:=by
  unfold clU at e
  cases hd:GN N l o with
  | none=>simp [hd] at e
  | some d'=>
    simp only [hd] at e
    split at e
    · next f xs ts ho=>
      split at e
      · next fn' first cap hf=>
        split at e
        · next vs hv=>
          split at e
          · next v1 h1=>
            split at e
            · next v2 h2=>
              cases e
              refine ⟨rfl,f,xs.toList,ts,first,cap,vs,by simpa using ho,by rw [← Ci];exact hf,Yp hv,?_⟩
              have e1:=TB h1
              have e2:=TB h2
              subst e1;subst e2
              apply Array.toList_inj.1
              simp
            · cases e
          · cases e
        · cases e
      · cases e
    · cases e
theorem cl (h:Kn N l a) {d:Nat} {fn:FuncId} {vs:List Value} (e:clU N l o=some (d,fn,vs)) (hcf:∀ args w,(callFunc fn args).run P w=.ok (.enter fn args) w) {R:Value→World→Prop} (HC:CallsR P fn vs.toArray w R)
    (k:∀ a' v w',R v w'→Kn N ((d,v)::l) a'→wpList P ops Q rest a' w'):wpList P ops Q (o::rest) a w:=by
  obtain ⟨e0,f,xs,ts,first,cap,us,ho,hf,hv,ha⟩:=WT e
  obtain ⟨h1,h2,h3,h4⟩:=FV e0
  exact so (Aa h1) fun K hK=>BD h h2 h3 h4 ho hcf hf hv ha HC fun a' v w' r h'=>hK _ _ (k a' v w' r h')
def stU (l:List (Nat×Value)) (o:Oper):Option (TypeId×Nat×Nat×Value):=
  match o.guard,o.dst with
  | none,none=>match o.op with
    | .store T x y=>match opU l x,opU l y with
      | some (.pointer (some ⟨g,off,none⟩)),some u=>some (T,g,off,u)
      | _,_=>none
    | _=>none
  | _,_=>none
theorem QY {T:TypeId} {g off:Nat} {u:Value} (e:stU l o=some (T,g,off,u)):o.guard=none∧o.dst=none∧∃ x y,o.op=.store T x y∧opv l x=some (.pointer (some ⟨g,off,none⟩))∧opv l y=some u:=by
  unfold stU at e
  split at e
  · next h1 h2=>
    split at e
    · next T' x y ho=>
      split at e
      · next g' off' u' hx hy=>
        cases e
        exact ⟨h1,h2,x,y,ho,by rw [← Ci];exact hx,by rw [← Ci];exact hy⟩
      · cases e
    · cases e
  · cases e
theorem Ahe {α:Type} (L:List α) (i:Nat) (v:α) (h:i<L.length):splice L i [v]=L.set i v:=by
  unfold splice
  rw [List.set_eq_take_append_cons_drop,if_pos h];rfl
theorem st1 (h:Kn N l a) (hS:Sep w cs) (i:Nat) {T ty:TypeId} {g off:Nat} {u:Value} {L L':List Value} (e:stU l o=some (T,g,off,u)) (hi:cs[i]? = some (Ab g ty L)) (hn:(P.info? T).map (·.size)=some 1) (hu:u.cells=#[u]) (h1:u.oneCell'=true) (hL:QT L off u=some L') (hcs:QT cs i (Ab g ty L')=some cs')
    (k:∀ a' w',Kn N l a'→Sep w' cs'→Turns (fun k=>k=g) w w'→wpList P ops Q rest a' w'):wpList P ops Q (o::rest) a w:=by
  obtain ⟨h2,h3,x,y,ho,hx,hy⟩:=QY e
  obtain ⟨eL,hlt⟩:=MJ hL
  obtain ⟨ec,_⟩:=MJ hcs
  refine so (Aa h2) fun K hK=>FS h h3 ho hS i hi hx hy [u] (by rw [hu]) hn (by simp [h1]) (Nat.succ_le_of_lt hlt) (L':=L') ?_ ec.symm fun a' w' h' s' t=>hK _ _ (k a' w' h' s' t)
  rw [eL]
  exact Ahe L off u hlt
theorem stM (h:Kn N l a) (hS:Sep w cs) (i:Nat) {T ty:TypeId} {g off:Nat} {u:Value} {L L' vs:List Value} (e:stU l o=some (T,g,off,u)) (hi:cs[i]? = some (Ab g ty L)) (hu:u.cells=vs.toArray) (hn:(P.info? T).map (·.size)=some vs.length) (h1:vs.all (·.oneCell')=true) (hlt:off+vs.length≤L.length) (hL:splice L off vs=L') (hcs:QT cs i (Ab g ty L')=some cs')
    (k:∀ a' w',Kn N l a'→Sep w' cs'→Turns (fun k=>k=g) w w'→wpList P ops Q rest a' w'):wpList P ops Q (o::rest) a w:=by
  obtain ⟨h2,h3,x,y,ho,hx,hy⟩:=QY e
  obtain ⟨ec,_⟩:=MJ hcs
  exact so (Aa h2) fun K hK=>FS h h3 ho hS i hi hx hy vs hu hn h1 hlt hL ec.symm fun a' w' h' s' t=>hK _ _ (k a' w' h' s' t)
theorem stA (h:Kn N l a) (hS:Sep w cs) (i:Nat) {T ty:TypeId} {g off:Nat} {u:Value} {L vs:List Value} (e:stU l o=some (T,g,off,u)) (hi:cs[i]? = some (Ab g ty L)) (hu:u.cells=vs.toArray) (hn:(P.info? T).map (·.size)=some vs.length) (h1:vs.all (·.oneCell')=true) (h0:off=0) (hl:vs.length=L.length) (hcs:QT cs i (Ab g ty vs)=some cs')
    (k:∀ a' w',Kn N l a'→Sep w' cs'→Turns (fun k=>k=g) w w'→wpList P ops Q rest a' w'):wpList P ops Q (o::rest) a w:=by
  subst h0
  refine stM h hS i e hi hu hn h1 ω (L':=vs) ?_ hcs k
  unfold splice
  rw [List.take_zero,List.drop_of_length_le ω];simp
def Adq (N:Nat):Nat→List (Nat×Value)→List Oper→Option (List (Nat×Value)×List Oper)
  | 0,l,os=>some (l,os)
  | _+1,_,[]=>none
  | n+1,l,o::os=>match mvU N l o with
    | none=>none
    | some y=>Adq N n (y::l) os
theorem mvs:∀ (n:Nat) {l l':List (Nat×Value)} {os rest:List Oper} {a:Act},Kn N l a→Adq N n l os=some (l',rest)→(∀ a',Kn N l' a'→wpList P ops Q rest a' w)→wpList P ops Q os a w
  | 0,_,_,_,_,_,h,e,k=>by cases e;exact k _ h
  | _+1,_,_,[],_,_,_,e,_=>by cases e
  | n+1,l,l',o::os,rest,a,h,e,k=>by
    unfold Adq at e
    cases hm:mvU N l o with
    | none=>simp [hm] at e
    | some y=>
      simp only [hm] at e
      exact mv h hm fun a' h'=>mvs n h' e k
variable {md:Region.Mode} {S:World→Prop} {fuel:Nat} {listed:Array Bool}
theorem tv1 (hS:S w) (h:Kn N l a) (i:Nat) (hi:ops[i]? = some o) {d:Nat} (e:GN N l o=some d) {v:Value} (hy:∀ w1,S w1→(execOp a.eval o).run P w1=.ok (.value v) w1)
    (k:∀ a',Kn N ((d,v)::l) a'→wpAnyH P md ops Q S fuel (listed.setIfInBounds i true) a' w)
    (hs:Region.noSelect ops=true:=by kernel_rfl) (hfr:Region.free md ops listed i=true:=by kernel_rfl) (hr:(Region.ready md ops listed).contains i=true:=by kernel_rfl) (hQ:∀ c a w v,Q (.panic c) (a.put o.dst v) w→Q (.panic c) a w:=by exact fun _ _ _ _ h=>h):wpAnyH P md ops Q S (fuel+1) listed a w:=by
  obtain ⟨h1,h2,h3,h4⟩:=FV e
  exact tv hS h i hi h2 h3 h4 hs hfr hr hQ (Aa h1) hy k
theorem rCt {fn:Func} {R:Value→World→Prop} (hK:Kn N l a) (hS:Sep w cs) (i:Nat) {c u g:Nat} {T e:TypeId} {L:List Value} {k:TypeDesc} {v:Value} (hu:P.underlying T=some k) (h:fn.results=#[.cell c T,.tmp u]) (hc:opU l (.tmp c)=some (.pointer (some ⟨g,0,none⟩))) (hv:opU l (.tmp u)=some v) (hi:cs[i]? = some (Ab g e L)) (hk:k.isRow=true) (kk:R (.tuple #[.agg L.toArray,v]) w) (hn:(P.info? T).map (·.size)=some L.length:=by kernel_rfl):bodyPost P fn (fun e w'=>∃ v,e=.returned v∧R v w') .ret a w:=
  Hk (Acf hK h (by rw [← Ci];exact hc) (by rw [← Ci];exact hv) (hS.get i hi:Blk _ _ _ _) hu hk hn) hK.defs kk
theorem wcF {cd:Operand} {x y:Code} {t:Bool} (h:Kn N l a) (hx:opU l cd=some (.bool t)) (ht:t=false) (k:y.wp P Q a w):(Code.cond cd x y).wp P Q a w:=JA (b:=false) h (by rw [← Ci];exact hx) ht (by simpa using k)
theorem wcT {cd:Operand} {x y:Code} {t:Bool} (h:Kn N l a) (hx:opU l cd=some (.bool t)) (ht:t=true) (k:x.wp P Q a w):(Code.cond cd x y).wp P Q a w:=JA (b:=true) h (by rw [← Ci];exact hx) ht (by simpa using k)
def Mg (l:List (Nat×Value)):List (Nat×Operand)→Option (List (Nat×Value))
  | []=>some []
  | (i,x)::r=>match opU l x,Mg l r with
    | some v,some vs=>some ((i,v)::vs)
    | _,_=>none
theorem SH {l:List (Nat×Value)}:∀ {xs:List (Nat×Operand)} {vs:List (Nat×Value)},Mg l xs=some vs→xs.map (fun p=>(p.1,opv l p.2))=vs.map (fun p=>(p.1,some p.2)):=by
  intro xs
  induction xs with
  | nil=>intro vs h;cases h;rfl
  | cons y r ih=>
    obtain ⟨i,x⟩:=y
    intro vs h
    unfold Mg at h
    cases hx:opU l x with
    | none=>simp [hx] at h
    | some v=>
      cases hr:Mg l r with
      | none=>simp [hx,hr] at h
      | some us=>
        simp only [hx,hr,Option.some.injEq] at h
        subst h
        rw [List.map_cons,List.map_cons,ih hr,← Ci,hx]
def buU (N:Nat) (l:List (Nat×Value)) (o:Oper):Option (Nat×TypeId×List (Nat×Value)):=
  match GN N l o with
  | none=>none
  | some d=>match o.op with
    | .build T xs=>match Mg l xs.toList with
      | some vs=>some (d,T,vs)
      | none=>none
    | _=>none
theorem bu (h:Kn N l a) {d:Nat} {T:TypeId} {vs:List (Nat×Value)} {v:Value} (e:buU N l o=some (d,T,vs)) (hv:∀ w,(Instr.build T vs.toArray).run P w=.ok v w) (k:∀ a',Kn N ((d,v)::l) a'→wpList P ops Q rest a' w):wpList P ops Q (o::rest) a w:=by
  unfold buU at e
  cases hd:GN N l o with
  | none=>simp [hd] at e
  | some d'=>
    simp only [hd] at e
    split at e
    · next T' xs ho=>
      split at e
      · next vs' hp=>
        cases e
        exact sv1 h hd (Ad4 h (xs:=xs.toList) (by simpa using ho) (SH hp) hv) k
      · cases e
    · cases e
theorem bC (b:Bool):b=true∨b=false:=Bool.eq_false_or_eq_true b
theorem dT {p:Prop} [Decidable p] (h:decide p=true):p:=of_decide_eq_true h
theorem dF {p:Prop} [Decidable p] (h:decide p=false):¬ p:=of_decide_eq_false h
end
end
section
theorem Jd (w:World) (g:Nat) (cs:Array Value):w.grownBy (w.setRow g cs) (some g):=
  ⟨rfl,rfl,rfl,by simp [World.setRow],fun k _ hn=>setRow_other w g k cs (by rintro rfl;exact hn rfl)⟩
theorem NQ {P:Program} (w:World) {t e et ty:TypeId} (under:P.underlying t=some (.slice e)) (hsz:(P.info? e).map (·.size)=some 1)
    {g off dLen dCap sLen sCap:Nat} {dp sp:Ω} (hdp:0<min sLen dLen→dp=some ⟨g,off,none⟩)
    {L ds:List Value} (hblk:Blk w g et L) (hrow:Row w 1 sp sLen sCap ds) (h1:∀ u∈ds,u.oneCell'=true) (hfit:off+min sLen dLen≤L.length) :
    ∃ w',(Builtin.copy_ #[t,t] ty #[.slice dp dLen dCap,.slice sp sLen sCap]).run P w=.ok (goInt (min sLen dLen:Nat)) w'∧Blk w' g et (splice L off (ds.take (min sLen dLen)))∧w.grownBy w' (some g):=by
  have hlen:(ds.take (min sLen dLen)).length=min sLen dLen:=by have:=hrow.1;simp;omega
  by_cases h0:min sLen dLen=0
  · refine ⟨w,?_,?_,Ld w _⟩
    · rw [h0];exact run_copy_none (P:=P) w t t ty e dp sp dLen dCap sLen sCap under hsz h0
    · rw [h0];simpa [splice] using hblk
  · obtain rfl:=hdp ω
    obtain ⟨b,off',rfl,hlt,hc⟩:=hrow.at ω
    have hrun:=run_copy_row (P:=P) w t t ty e g off dLen dCap ⟨b,off',none⟩ sLen sCap L.toArray et (ds.take (min sLen dLen)) under hsz hblk hlen (by
      intro j v hj
      have hj':ds[j]? = some v:=by
        rw [List.getElem?_take] at hj
        split at hj
        · exact hj
        · cases hj
      have:=hc j v hj'
      unfold Addr.add
      split
      · subst j;simpa using this
      · exact this) (by simp;omega) (fun v hv=>h1 v (List.mem_of_mem_take hv))
    refine ⟨_,hrun.trans (by rw [hlen]),?_,Jd w g _⟩
    unfold Blk
    rw [setRow_heap w g _ _ et _ hblk]
    generalize ds.take (min sLen dLen)=cs at hlen
    simp [splice,hlen]
theorem Wy {F:Fence} {nF:Nat} {P:Program} {w:World} {ops:Array Oper} {rest:List Oper} {o:Oper} {act:Act} {Q:Exit→Act→World→Prop} (hgd:o.guard=none) (d s:Operand) {t e et:TypeId}
    (ho:o.op=.call { callee:=.builtin .copy,args:=#[d,s],argTypes:=#[t,t] }) (under:P.underlying t=some (.slice e)) (hsz:(P.info? e).map (·.size)=some 1)
    {g off dLen dCap sLen sCap:Nat} {dp sp:Ω} (hd:act.eval d=.slice dp dLen dCap) (hs:act.eval s=.slice sp sLen sCap) (hdp:0<min sLen dLen→dp=some ⟨g,off,none⟩)
    {L ds:List Value} (hblk:Blk w g et L) (hrow:Row w 1 sp sLen sCap ds) (h1:∀ u∈ds,u.oneCell'=true) (hfit:off+min sLen dLen≤L.length)
    (h:∀ w',Blk w' g et (splice L off (ds.take (min sLen dLen)))→w.grownBy w' (some g)→wpListIn F nF P ops Q rest (act.put o.dst (goInt (min sLen dLen:Nat))) w') :
    wpListIn F nF P ops Q (o::rest) act w:=by
  obtain ⟨w',hrun,hb,hg⟩:=NQ (ty:=o.type) w under hsz hdp hblk hrow h1 hfit (dCap:=dCap)
  refine wpListIn_plain hgd fun K' hK'=>?_
  unfold Oper.wpIn
  refine ⟨by simp [Oper.about,ho,resolve,Target.leads,Sem.run_pure],?_⟩
  rw [Oper.semAt_plain F _ _ (by rw [ho];intro c hc';cases hc')]
  simp [execOp,ho,resolve,invoke,builtin,hd,hs,hrun,Result.andThen]
  exact hK' _ _ (h w' hb hg)
theorem Th {P:Program} {ops:Array Oper} {o:Oper} {act:Act} {w:World} {K:Act→World→Prop} {Q:Exit→Act→World→Prop} {E:Prop} (hgd:o.guard=none) (d s:Operand) {t e et:TypeId}
    (ho:o.op=.call { callee:=.builtin .copy,args:=#[d,s],argTypes:=#[t,t] }) (under:P.underlying t=some (.slice e)) (hsz:(P.info? e).map (·.size)=some 1)
    {g off dLen dCap sLen sCap:Nat} {dp sp:Ω} (hd:act.eval d=.slice dp dLen dCap) (hs:act.eval s=.slice sp sLen sCap) (hdp:0<min sLen dLen→dp=some ⟨g,off,none⟩)
    {L ds:List Value} (hblk:Blk w g et L) (hrow:Row w 1 sp sLen sCap ds) (h1:∀ u∈ds,u.oneCell'=true) (hfit:off+min sLen dLen≤L.length)
    (h:∀ w',Blk w' g et (splice L off (ds.take (min sLen dLen)))→w.grownBy w' (some g)→K (act.put o.dst (goInt (min sLen dLen:Nat))) w') :
    if Region.wanted o (yielded ops act.tmps)=true then Oper.wp P o act w K Q else E:=by
  have hw:Region.wanted o (yielded ops act.tmps)=true:=by simp [Region.wanted,hgd]
  rw [if_pos hw]
  obtain ⟨w',hrun,hb,hg⟩:=NQ (ty:=o.type) w under hsz hdp hblk hrow h1 hfit (dCap:=dCap)
  unfold Oper.wp
  simp [execOp,ho,resolve,invoke,builtin,hd,hs,hrun,Result.andThen]
  exact h w' hb hg
theorem SW {P:Program} (w:World) {t k e ty:TypeId} {p:Nat} {es:Array MapEntry} {clock:Nat} (ht:P.underlying t=some (.map k e)) (hb:w.heap[p]? = some (.map es clock)) :
    (Builtin.clear_ #[t] ty #[.map (some p)]).run P w=.ok (.tuple #[]) (ChangeMaps.setBlock w p (.map #[] clock)):=by
  simp [Builtin.clear_,run_underlying ht,MapKept.run_getObj_map hb,MapKept.run_setObj_map _ hb,Result.andThen,ChangeMaps.setBlock]
theorem PendP.clear {w:World} {p:Nat} {A:List Bool} (h:PendP w p A) {t e ty:TypeId} (ht:prog.underlying t=some (.map 3 e)) (n:Nat) :
    ∃ w',(Builtin.clear_ #[t] ty #[.map (some p)]).run prog w=.ok (.tuple #[]) w'∧PendP w' p (EF n fun _=>false)∧w.grownBy w' (some p):=by
  obtain ⟨D,m,⟨es,clock,hb,F,hs,hD⟩,h1,h2⟩:=h
  refine ⟨_,SW w ht hb,?_,⟨rfl,rfl,rfl,by simp [ChangeMaps.setBlock],fun i _ hi=>ChangeMaps.heap_setBlock_other hb _ (fun e=>hi (by rw [e]))⟩⟩
  obtain ⟨D0,n0,⟨es0,clock0,hb0,F0,hs0,hD0⟩,r⟩:=PendP.made w n
  have hz:es0=#[]:=by
    have:(w.alloc (.map #[] 0)).heap[w.heap.size]? = some (.map #[] 0):=heap_alloc_new w _
    rw [this] at hb0
    cases hb0;rfl
  subst hz
  exact ⟨D0,n0,⟨#[],clock,ChangeMaps.heap_setBlock_same hb _,⟨by simp,MapKept.stamped_empty _,by simp⟩,hs0,hD0⟩,r⟩
theorem Zp {F:Fence} {nF:Nat} {w:World} {ops:Array Oper} {rest:List Oper} {o:Oper} {act:Act} {Q:Exit→Act→World→Prop} (hgd:o.guard=none) (m x:Operand) {t e:TypeId}
    (ho:o.op=.call { callee:=.builtin .delete,args:=#[m,x],argTypes:=#[t,3] }) (ht:prog.underlying t=some (.map 3 e)) {p k:Nat} {A:List Bool} (hm:act.eval m=.map (some p)) (hx:act.eval x=ν k) (hk:k<A.length) (hk2:k≤1000000) (hp:PendP w p A)
    (h:∀ w',PendP w' p (A.set k false)→w.grownBy w' (some p)→wpListIn F nF prog ops Q rest (act.put o.dst (.tuple #[])) w'):wpListIn F nF prog ops Q (o::rest) act w:=by
  obtain ⟨D,n,ho',h1,h2⟩:=hp
  refine wpListIn_delete_own w hgd m x t 3 ho e Hc ht unitElem p n D hm ho' _ _ hx (Adf k (WalkArith.wf_i64 ω)) ?_
  intro w1 o1 t1
  exact h w1 (PendP.del hk hk2 ho' h1 h2 o1) t1.grown
theorem Zq {F:Fence} {nF:Nat} {w:World} {ops:Array Oper} {rest:List Oper} {o:Oper} {act:Act} {Q:Exit→Act→World→Prop} (hgd:o.guard=none) (m x v:Operand) {t e:TypeId}
    (ho:o.op=.mapUpdate t m x v) (ht:prog.underlying t=some (.map 3 e)) {p k:Nat} {A:List Bool} (hm:act.eval m=.map (some p)) (hx:act.eval x=ν k) (hv:act.eval v=.agg #[]) (hk:k<A.length) (hk2:k≤1000000) (hl:A.length≤1000000) (hp:PendP w p A)
    (h:∀ w',PendP w' p (A.set k true)→w.grownBy w' (some p)→wpListIn F nF prog ops Q rest (act.put o.dst undef) w'):wpListIn F nF prog ops Q (o::rest) act w:=by
  obtain ⟨D,ho',h1,h2⟩:=hp.norm
  have hc:A.count true≤A.length:=List.count_le_length
  refine wpListIn_mapUpdate_in w hgd m x v t ho 3 e Hc ht unitElem p _ D hm ho' (by unfold maxLen;omega) _ _ _ hx hv (Adf k (WalkArith.wf_i64 ω)) (.agg []) [] unitElem_mk ?_
  intro w1 o1 t1
  exact h w1 (PendP.put hk hk2 ho' h1 h2 o1) t1.grown
theorem SC (w:World):CF (w.alloc (.cells #[] 5)) w.heap.size (some ⟨w.heap.size,0,none⟩) 0 []:=by
  refine ⟨rfl,.inr ⟨w.heap.size,0,#[],rfl,Nat.le_refl _,?_,Nat.le_refl _,Nat.zero_le _,rfl,rfl⟩⟩
  exact heap_alloc_new w _
theorem Ln (a:Ω) (c:Nat) (xs:Λ) (w:World) (h:RowB w a c xs) (hx:xs.length≤1048576) :
    Calls prog 37 #[.slice a xs.length c] w (UC w xs):=by
  have qT:∀ (w:World) (a:Ω) (n c n' c':Nat),(binOp .eql 22 (.slice a n c) (.slice none n' c')).run prog w=.ok (.bool a.isNone) w:=fun w a n c n' c'=>Lib.run_eql_slice_nil w _ _ a n c n' c' υ22
  cases a with
  | none=>
    have hc:c=0:=h.2.2.2.1 rfl
    have hl:xs=[]:=List.eq_nil_of_length_eq_zero (by have:=h.2.1;omega)
    subst hl
    clear h hx hc
    go_enter func37,ntmps37
    go_wp2
    go_ret
    exact ⟨none,0,rfl,Own.nil _ _ _ _,Below.refl _ _⟩
  | some ad=>
    have HO:=hid (SC w)
    have HR:=hid (h.mono (Ck w (.cells #[] 5)))
    have B0:=hid (Ck w (.cells #[] 5))
    clear h
    go_enter func37,ntmps37
    go_wp2_with (at_builtin;(refine CA rfl (.tmp 5) (.tmp 6) rfl E8 w.heap.size rfl rfl HO.out HR.out (CN xs) ω ω (by simp) ?_);intro a2 c2 w2 o2 g2 b2;have O2:=hid o2;have B2:=hid (B0.out.trans b2);clear o2 g2 b2)
    go_ret
    exact ⟨a2,c2,by simp,by have:=O2.out;simpa using this,B2.out⟩
theorem MemP.cells {w:World} {g v d p:Nat} {M:MemM} (h:MemP w g v d p M) :
    w.cell? ⟨g,0,none⟩=some (.slice (some ⟨v,0,none⟩) M.V.length M.V.length)∧w.cell? ⟨g,1,none⟩=some (.slice (some ⟨d,0,none⟩) M.V.length M.V.length)∧w.cell? ⟨g,2,none⟩=some (.map (some p)):=
  ⟨h.2.2.1.cell (i:=0) (by simp),h.2.2.1.cell (i:=1) (by simp),h.2.2.1.cell (i:=2) (by simp)⟩
theorem Hp {w:World} {g v d p:Nat} {M:MemM} (h:MemP w g v d p M):Calls prog 38 #[π g] w fun e w'=>e=.returned (ν M.V.length)∧w=w':=by
  obtain ⟨c0,_,_⟩:=h.cells
  clear h
  go_enter func38,ntmps38
  go_wp2
  go_ret
  exact ⟨rfl,rfl⟩
def inM (M:MemM) (at_ n:Int):Bool:=decide (0≤at_∧0≤n∧at_≤(M.V.length:Int)-n)
theorem IJ {w:World} {g v d p:Nat} {M:MemM} (h:MemP w g v d p M) (at_ n:Int) (ha:-9223372036854775808≤at_∧at_≤9223372036854775807) (hn:-9223372036854775808≤n∧n≤9223372036854775807) :
    Calls prog 36 #[π g,ν at_,ν n] w fun e w'=>e=.returned (.bool (inM M at_ n))∧w=w':=by
  have hl:=h.1.2.2.2.2
  have HS:=hid (Hp h)
  clear h
  unfold inM
  by_cases h1:0≤at_
  · have d1:decide (0≤at_)=true:=decide_eq_true h1
    by_cases h2:0≤n
    · have d2:decide (0≤n)=true:=decide_eq_true h2
      have e1:IntKind.i64.wrap ((M.V.length:Int)-n)=(M.V.length:Int)-n:=IntWalk.i64_in _ ω
      by_cases h3:at_≤(M.V.length:Int)-n
      · have d3:decide (at_≤(M.V.length:Int)-n)=true:=decide_eq_true h3
        rw [decide_eq_true ⟨h1,h2,h3⟩]
        go_enter func36,ntmps36
        go_wp2_with (go_at_call 38;refine HS.out.mono ?_;rintro e w1 ⟨rfl,rfl⟩)
        go_ret
        exact ⟨rfl,rfl⟩
      · have d3:decide (at_≤(M.V.length:Int)-n)=false:=decide_eq_false h3
        rw [decide_eq_false (fun q=>h3 q.2.2)]
        go_enter func36,ntmps36
        go_wp2_with (go_at_call 38;refine HS.out.mono ?_;rintro e w1 ⟨rfl,rfl⟩)
        go_ret
        exact ⟨rfl,rfl⟩
    · have d2:decide (0≤n)=false:=decide_eq_false h2
      rw [decide_eq_false (fun q=>h2 q.2.1)]
      clear HS
      go_enter func36,ntmps36
      go_wp2
      go_ret
      exact ⟨rfl,rfl⟩
  · have d1:decide (0≤at_)=false:=decide_eq_false h1
    rw [decide_eq_false (fun q=>h1 q.1)]
    clear HS
    go_enter func36,ntmps36
    go_wp2
    go_ret
    exact ⟨rfl,rfl⟩
end
section
theorem Abm {w:World} {g:Nat} {e:TypeId} {L:List Value} (h:Blk w g e L) (lo:Nat) (hl:L.length≤9223372036854775807) (hlo:lo≤L.length):Row w 1 (some ⟨g,lo,none⟩) (L.length-lo) (L.length-lo) (L.drop lo):=
  ⟨by simp,Nat.le_refl _,by unfold maxLen;omega,(fun h=>by cases h),fun hn=>⟨g,lo,rfl,h.lt,fun j u hu=>by
    rw [List.getElem?_drop] at hu
    obtain ⟨h1,h2⟩:=List.getElem?_eq_some_iff.1 hu
    rw [h.cell h1,h2]⟩⟩
theorem Abn {w:World} {g:Nat} {e:TypeId} {L:List Value} (h:Blk w g e L) (lo n c:Nat) (hc:n≤c) (hc2:c≤9223372036854775807) (hlo:lo+n≤L.length):Row w 1 (some ⟨g,lo,none⟩) n c ((L.drop lo).take n):=
  ⟨by simp;omega,hc,by unfold maxLen;omega,(fun h=>by cases h),fun hn=>⟨g,lo,rfl,h.lt,fun j u hu=>by
    rw [List.getElem?_take] at hu
    split at hu
    · rw [List.getElem?_drop] at hu
      obtain ⟨h1,h2⟩:=List.getElem?_eq_some_iff.1 hu
      rw [h.cell h1,h2]
    · cases hu⟩⟩
theorem Vs (V:Λ) (k n:Nat) (hn:min n 8=8):((V.map Ad).drop (8*k)).take (min n 8)=(GF V k).map Ad:=by
  rw [hn,GF,List.map_take,List.map_drop]
theorem Ky {w:World} {g v d p:Nat} {M:MemM} (h:MemP w g v d p M) (k:Nat) (hk:k<M.A.length) :
    Calls prog 68 #[π g,ν (k:Int)] w fun e w'=>(∃ x,e=.returned x)∧MemP w' g v d p ⟨M.V,Fl (fun i=>i == k) M.V M.D,M.A⟩∧Turns (fun b=>b=d) w w':=by
  obtain ⟨hok,hne,hg,hv,hd,hp⟩:=h
  obtain ⟨_,ag1,ag2,ag3,ag4,ag5,_,_,_,_⟩:=CQ ⟨hok,hne,hg,hv,hd,hp⟩
  obtain ⟨c0,c1,c2⟩:=MemP.cells ⟨hok,hne,hg,hv,hd,hp⟩
  obtain ⟨l1,l2,l3,l4,l5⟩:=hok
  have hk8:8*k+8≤M.V.length:=ω
  have e1:IntKind.i64.wrap ((k:Int)*8)=((8*k:Nat):Int):=by rw [IntWalk.i64_in _ ω];omega
  have e2:IntKind.i64.wrap (((8*k:Nat):Int)+8)=((8*k+8:Nat):Int):=by rw [IntWalk.i64_in _ ω];omega
  have hsrc:=Abm hv (8*k) (by simp;omega) (by simp;omega)
  rw [List.length_map] at hsrc
  have H0:∀ w',Blk w' d 5 (splice (M.D.map Ad) (8*k) (((M.V.map Ad).drop (8*k)).take (min (M.V.length-8*k) 8)))→w.grownBy w' (some d)→MemP w' g v d p ⟨M.V,Fl (fun i=>i == k) M.V M.D,M.A⟩∧Turns (fun b=>b=d) w w':=by
    intro w' hb hg'
    have t:Turns (fun b=>b=d) w w':=Turns.of_grown hg' rfl
    rw [Vs _ _ _ ω,← IC,Td l1 ω] at hb
    refine ⟨⟨⟨by rw [Dl];exact l1,l2,l3,l4,l5⟩,hne,t.blk hg ag2,t.blk hv hne,hb,t.pend hp ag5⟩,t⟩
  have HO:=hid H0;have HD:=hid hd;have HS:=hid hsrc;have HK:=hid hk8
  have hDl:M.D.length=M.V.length:=l1
  have HL:=hid hDl
  have hVl:M.V.length≤1048576:=l5
  clear H0 hd hsrc hv hg hp hDl l1 l2 l3 l4 l5 ag1 ag2 ag3 ag4 ag5 c2
  generalize hq:8*k=q at *
  have HQ:=hid hq;clear hq
  have f1:(0≤(q:Int)+8)=True:=eq_true ω
  have f2:((q:Int)+8≤(M.V.length:Int))=True:=eq_true ω
  have f3:((q:Int)+8).toNat=q+8:=ω
  have f4:(M.V.length=q)=False:=eq_false ω
  have f5:((q:Int)≤(M.V.length:Int))=True:=eq_true ω
  have f6:(q≤M.V.length)=True:=eq_true ω
  have f7:(q+8≤M.V.length)=True:=eq_true ω
  go_enter func68,ntmps68
  go_wp2_with fail
  go_region_law (refine Th rfl (.tmp 14) (.tmp 20) rfl υ22 κ rfl rfl (fun _=>rfl) HD.out HS.out (fun u hu=>CN M.V u (List.mem_of_mem_drop hu)) (by rw [List.length_map,HL.out];omega) ?_;intro w4 b4 g4)
  all_goals
    have G4:=hid (HO.out w4 b4 ⟨g4.os,g4.tape,g4.output,g4.size,g4.block⟩)
    clear b4 g4
    go_end0
    exact ⟨⟨_,rfl⟩,G4.out⟩
def Li (xs:Λ):Array Value:=(xs.map Ad).toArray
theorem SY (w:World):(sizeOf 5).run prog w=.ok 1 w:=by
  have:(prog.info? 5).map (·.size)=some 1:=κ
  cases hq:prog.info? 5 with
  | none=>simp [hq] at this
  | some i=>
    simp [hq] at this
    simp [sizeOf,typeInfo,hq,this]
theorem NS (xs:Λ) (i:Nat) (w:World) (hi:i<xs.length):(part 5 (Li xs) i).run prog w=.ok (.int .u8 (bAt xs i:Int)) w:=by
  have hagg:(isAgg 5).run prog w=.ok false w:=by
    unfold isAgg
    rw [Sem.run_bind,run_underlying υ5 w]
    rfl
  have hc:(Li xs)[i]? = some (.int .u8 (bAt xs i:Int)):=by
    simp [Li,hi,Ad,DL hi]
  simp [part,Sem.run_bind,hagg,hc]
theorem Hw {xs:Λ} {i:Nat} (h:i<xs.length):xs.drop i=UInt8.ofNat (bAt xs i)::xs.drop (i+1):=by
  rw [List.drop_eq_getElem_cons h,DL h];simp
theorem KF (xs ys:Λ) (w:World) (d:Nat) (hx:xs.length=8) (hy:ys.length=8):∀ (n i:Nat),i+n=8 →
    Sem.run prog (forIn (List.range' i n) ((none:Option Bool),()) fun i __s=>do
      let a ← part 5 (Li xs) i
      let b ← part 5 (Li ys) i
      let c ← Op.equalIn (d+1) 5 a b
      if (!c)=true then pure (ForInStep.done (some false,())) else pure (ForInStep.yield (none,()))) w=.ok (if xs.drop i=ys.drop i then (none,()) else (some false,())) w
  | 0,i,h=>by
    have h1:xs.drop i=[]:=List.drop_eq_nil_of_le ω
    have h2:ys.drop i=[]:=List.drop_eq_nil_of_le ω
    simp [h1,h2]
  | n+1,i,h=>by
    have ih:=KF xs ys w d hx hy n (i+1) ω
    rw [List.range'_succ,List.forIn_cons]
    simp only [Sem.run_bind,NS xs i w ω,NS ys i w ω,Result.andThen_ok,run_equalIn_int w d 5 .u8 .u8 _ _ υ5]
    have ha:=EH xs i
    have hb:=EH ys i
    by_cases e:bAt xs i=bAt ys i
    · have e':((bAt xs i:Int) == (bAt ys i:Int))=true:=by simp [e]
      simp only [e',Bool.not_true,Bool.false_eq_true,if_false,Sem.run_pure,Result.andThen_ok]
      rw [ih,Hw (xs:=xs) (i:=i) ω,Hw (xs:=ys) (i:=i) ω,e]
      simp
    · have e':((bAt xs i:Int) == (bAt ys i:Int))=false:=by simp;omega
      simp only [e',Bool.not_false,if_true,Sem.run_pure,Result.andThen_ok]
      rw [Hw (xs:=xs) (i:=i) ω,Hw (xs:=ys) (i:=i) ω,if_neg]
      intro h2
      injection h2 with h3 _
      have:=congrArg UInt8.toNat h3
      simp at this
      omega
theorem YM (xs ys:Λ) (w:World) (d:Nat) (hx:xs.length=8) (hy:ys.length=8) :
    (Op.equalIn (d+1+1) 159 (.agg (Li xs)) (.agg (Li ys))).run prog w=.ok (decide (xs=ys)) w:=by
  rw [Op.equalIn]
  simp only [Sem.run_bind,run_underlying υ159,Result.andThen_ok,SY,Nat.mul_one]
  rw [Std.Legacy.Range.forIn_eq_forIn_range']
  simp only [Std.Legacy.Range.size,Nat.sub_zero]
  rw [show (8+1-1) / 1=8 from rfl,KF xs ys w d hx hy 8 0 rfl]
  simp only [List.drop_zero,Result.andThen_ok]
  by_cases h:xs=ys
  · simp [h]
  · simp [h]
theorem Mz (a:Ω) (n c:Nat) (w:World) (h:8≤n):(Instr.arrayAt 159 (.slice a n c)).run prog w=.ok (.pointer a) w:=by
  simp [Instr.arrayAt,run_underlying υ159]
  omega
end
section
theorem NN {w:World} {g:Nat} {e:TypeId} {L:List Value} (h:Blk w g e L) (lo n:Nat):w.rangeAt g lo ((L.drop lo).take n):=fun j u hu=>by
  rw [List.getElem?_take] at hu
  split at hu
  · rw [List.getElem?_drop] at hu
    obtain ⟨h1,h2⟩:=List.getElem?_eq_some_iff.1 hu
    rw [h.cell h1,h2]
  · cases hu
theorem US {w:World} {g v d p:Nat} {M:MemM} (h:MemP w g v d p M) (k:Nat) (hk:k<M.A.length) :
    Calls prog 67 #[π g,ν (k:Int)] w fun e w'=>e=.returned (.bool (DN M.V M.D k))∧Below w.heap.size w w':=by
  obtain ⟨hok,hne,hg,hv,hd,hp⟩:=h
  obtain ⟨c0,c1,c2⟩:=MemP.cells ⟨hok,hne,hg,hv,hd,hp⟩
  obtain ⟨l1,l2,l3,l4,l5⟩:=hok
  have hk8:8*k+8≤M.V.length:=ω
  have e1:IntKind.i64.wrap ((k:Int)*8)=((8*k:Nat):Int):=by rw [IntWalk.i64_in _ ω];omega
  have r1:=NN hv (8*k) 8
  have r2:=NN hd (8*k) 8
  rw [← List.map_drop,← List.map_take] at r1 r2
  have hx:=JJ (X:=M.V) (k:=k) hk8
  have hy:=JJ (X:=M.D) (k:=k) ω
  have hB:DN M.V M.D k=!decide (GF M.V k=GF M.D k):=by unfold DN;simp
  unfold GF at hx hy hB
  rw [hB]
  have hVl:M.V.length≤1048576:=l5
  clear hB hv hd hg hp c2 l1 l2 l3 l4 l5
  generalize (M.V.drop (8*k)).take 8=xs at *
  generalize (M.D.drop (8*k)).take 8=ys at *
  have hneq:∀ w,(Op.equalIn 10000 159 (.agg (xs.map Ad).toArray) (.agg (ys.map Ad).toArray)).run prog w=.ok (decide (xs=ys)) w:=fun w=>YM xs ys w 9998 hx hy
  have ha1:=fun w=>Mz (some ⟨v,8*k,none⟩) (M.V.length-8*k) (M.V.length-8*k) w ω
  have ha2:=fun w=>Mz (some ⟨d,8*k,none⟩) (M.V.length-8*k) (M.V.length-8*k) w ω
  have HX:=hid hx;have HY:=hid hy
  clear hx hy
  generalize hq:8*k=q at *
  clear hq
  have f4:(M.V.length=q)=False:=eq_false ω
  have f5:((q:Int)≤(M.V.length:Int))=True:=eq_true ω
  have f6:(q≤M.V.length)=True:=eq_true ω
  go_enter func67,ntmps67
  go_wp2_with fail
  refine wp_region_held_drew (S:=fun w'=>(w'.cell? ⟨g,0,none⟩=some (.slice (some ⟨v,0,none⟩) M.V.length M.V.length)∧w'.cell? ⟨g,1,none⟩=some (.slice (some ⟨d,0,none⟩) M.V.length M.V.length)∧w'.rangeAt v q (xs.map Ad)∧w'.rangeAt d q (ys.map Ad))∧Below w.heap.size w w') κ ⟨⟨c0,c1,r1,r2⟩,(Below.refl _ _).drew⟩ (fun hS_0=>?_)
  refine Bc (i:=0) (v:=π g) rfl rfl κ κ κ (fun _ _ _ h=>h) (Or.inl ⟨Eq.refl true,fun w1 hSw=>?_⟩) hS_0 ?_
  · first | rfl | (clear hSw;go_simp;done) | (clear hSw;go_simp;rfl)
  (try simp only [Act.put,List.setIfInBounds_toArray,List.set_cons_zero,List.set_cons_succ])
  refine Bc (i:=1) (v:=π g) rfl rfl κ κ κ (fun _ _ _ h=>h) (Or.inl ⟨Eq.refl true,fun w1 hSw=>?_⟩) hS_0 ?_
  · first | rfl | (clear hSw;go_simp;done) | (clear hSw;go_simp;rfl)
  (try simp only [Act.put,List.setIfInBounds_toArray,List.set_cons_zero,List.set_cons_succ])
  refine Bc (i:=2) (v:=π g) rfl rfl κ κ κ (fun _ _ _ h=>h) (Or.inl ⟨Eq.refl true,fun w1 hSw=>?_⟩) hS_0 ?_
  · first | rfl | (clear hSw;go_simp;done) | (clear hSw;go_simp;rfl)
  (try simp only [Act.put,List.setIfInBounds_toArray,List.set_cons_zero,List.set_cons_succ])
  refine Bc (i:=3) (v:=.slice (some ⟨v,0,none⟩) M.V.length M.V.length) rfl rfl κ κ κ (fun _ _ _ h=>h) (Or.inl ⟨Eq.refl true,fun w1 hSw=>?_⟩) hS_0 ?_
  · (obtain ⟨⟨q1,q2,_,_⟩,_⟩:=hSw;go_simp;try rfl)
  (try simp only [Act.put,List.setIfInBounds_toArray,List.set_cons_zero,List.set_cons_succ])
  refine Bc (i:=4) (v:=ν (q:Int)) rfl rfl κ κ κ (fun _ _ _ h=>h) (Or.inl ⟨Eq.refl true,fun w1 hSw=>?_⟩) hS_0 ?_
  · first | rfl | (clear hSw;go_simp;done) | (clear hSw;go_simp;rfl)
  (try simp only [Act.put,List.setIfInBounds_toArray,List.set_cons_zero,List.set_cons_succ])
  refine Bc (i:=5) (v:=.slice (some ⟨v,q,none⟩) (M.V.length-q) (M.V.length-q)) rfl rfl κ κ κ (fun _ _ _ h=>h) (Or.inl ⟨Eq.refl true,fun w1 hSw=>?_⟩) hS_0 ?_
  · first | rfl | (clear hSw;go_simp;done) | (clear hSw;go_simp;rfl)
  (try simp only [Act.put,List.setIfInBounds_toArray,List.set_cons_zero,List.set_cons_succ])
  refine Bc (i:=6) (v:=.pointer (some ⟨v,q,none⟩)) rfl rfl κ κ κ (fun _ _ _ h=>h) (Or.inl ⟨Eq.refl true,fun w1 hSw=>?_⟩) hS_0 ?_
  · first | rfl | (clear hSw;go_simp;done) | (clear hSw;go_simp;rfl)
  (try simp only [Act.put,List.setIfInBounds_toArray,List.set_cons_zero,List.set_cons_succ])
  refine BY (i:=7) 159 _ (v) q (xs.map Ad) _ rfl rfl rfl rfl (Eq.refl true) υ159 rfl (by rw [List.length_map,HX.out];kernel_rfl) κ κ κ (fun _ _ _ h=>h) (fun w' h'=>h'.1.2.2.1) hS_0 ?_
  (try simp only [Act.put,List.setIfInBounds_toArray,List.set_cons_zero,List.set_cons_succ])
  refine Bc (i:=8) (v:=π g) rfl rfl κ κ κ (fun _ _ _ h=>h) (Or.inl ⟨Eq.refl true,fun w1 hSw=>?_⟩) hS_0 ?_
  · first | rfl | (clear hSw;go_simp;done) | (clear hSw;go_simp;rfl)
  (try simp only [Act.put,List.setIfInBounds_toArray,List.set_cons_zero,List.set_cons_succ])
  refine Bc (i:=9) (v:=π g) rfl rfl κ κ κ (fun _ _ _ h=>h) (Or.inl ⟨Eq.refl true,fun w1 hSw=>?_⟩) hS_0 ?_
  · first | rfl | (clear hSw;go_simp;done) | (clear hSw;go_simp;rfl)
  (try simp only [Act.put,List.setIfInBounds_toArray,List.set_cons_zero,List.set_cons_succ])
  refine Bc (i:=10) (v:=.pointer (some ⟨g,1,none⟩)) rfl rfl κ κ κ (fun _ _ _ h=>h) (Or.inl ⟨Eq.refl true,fun w1 hSw=>?_⟩) hS_0 ?_
  · first | rfl | (clear hSw;go_simp;done) | (clear hSw;go_simp;rfl)
  (try simp only [Act.put,List.setIfInBounds_toArray,List.set_cons_zero,List.set_cons_succ])
  refine Bc (i:=11) (v:=.slice (some ⟨d,0,none⟩) M.V.length M.V.length) rfl rfl κ κ κ (fun _ _ _ h=>h) (Or.inl ⟨Eq.refl true,fun w1 hSw=>?_⟩) hS_0 ?_
  · (obtain ⟨⟨q1,q2,_,_⟩,_⟩:=hSw;go_simp;try rfl)
  (try simp only [Act.put,List.setIfInBounds_toArray,List.set_cons_zero,List.set_cons_succ])
  refine Bc (i:=12) (v:=ν (q:Int)) rfl rfl κ κ κ (fun _ _ _ h=>h) (Or.inl ⟨Eq.refl true,fun w1 hSw=>?_⟩) hS_0 ?_
  · first | rfl | (clear hSw;go_simp;done) | (clear hSw;go_simp;rfl)
  (try simp only [Act.put,List.setIfInBounds_toArray,List.set_cons_zero,List.set_cons_succ])
  refine Bc (i:=13) (v:=.slice (some ⟨d,q,none⟩) (M.V.length-q) (M.V.length-q)) rfl rfl κ κ κ (fun _ _ _ h=>h) (Or.inl ⟨Eq.refl true,fun w1 hSw=>?_⟩) hS_0 ?_
  · first | rfl | (clear hSw;go_simp;done) | (clear hSw;go_simp;rfl)
  (try simp only [Act.put,List.setIfInBounds_toArray,List.set_cons_zero,List.set_cons_succ])
  refine Bc (i:=14) (v:=.pointer (some ⟨d,q,none⟩)) rfl rfl κ κ κ (fun _ _ _ h=>h) (Or.inl ⟨Eq.refl true,fun w1 hSw=>?_⟩) hS_0 ?_
  · first | rfl | (clear hSw;go_simp;done) | (clear hSw;go_simp;rfl)
  (try simp only [Act.put,List.setIfInBounds_toArray,List.set_cons_zero,List.set_cons_succ])
  refine BY (i:=15) 159 _ (d) q (ys.map Ad) _ rfl rfl rfl rfl (Eq.refl true) υ159 rfl (by rw [List.length_map,HY.out];kernel_rfl) κ κ κ (fun _ _ _ h=>h) (fun w' h'=>h'.1.2.2.2) hS_0 ?_
  (try simp only [Act.put,List.setIfInBounds_toArray,List.set_cons_zero,List.set_cons_succ])
  refine Bc (i:=16) (v:=.bool (!decide (xs=ys))) rfl rfl κ κ κ (fun _ _ _ h=>h) (Or.inl ⟨Eq.refl true,fun w1 hSw=>?_⟩) hS_0 ?_
  · first | rfl | (clear hSw;go_simp;done) | (clear hSw;go_simp;rfl)
  (try simp only [Act.put,List.setIfInBounds_toArray,List.set_cons_zero,List.set_cons_succ])
  refine Bc (i:=17) (v:=.bool (!decide (xs=ys))) rfl rfl κ κ κ (fun _ _ _ h=>h) (Or.inl ⟨Eq.refl true,fun w1 hSw=>?_⟩) hS_0 ?_
  · first | rfl | (clear hSw;go_simp;done) | (clear hSw;go_simp;rfl)
  (try simp only [Act.put,List.setIfInBounds_toArray,List.set_cons_zero,List.set_cons_succ])
  refine wpAnyH_done κ ?_ _
  go_wp2_with fail
  go_ret
  exact ⟨rfl,Ef (Below.refl _ _) _⟩
end
section
theorem Dp {P:Program} {w:World} {o:Oper} {act:Act} {K:Act→World→Prop} {Q:Exit→Act→World→Prop} (l c:Operand) {t e:TypeId} {bytes:Nat} {z:Value}
    (ho:o.op=Op.makeSlice t l c) (under:P.underlying t=some (.slice e)) (hinfo:(P.info? e).map (fun i=>(i.zero,i.size,i.bytes))=some (some z,1,bytes)) (hz:z.cells=#[z])
    {kl kc:IntKind} {L C:Int} {n:Nat} (hl:act.eval l=.int kl L) (hc:act.eval c=.int kc C) (hL:L=(n:Int)) (hC:C=(n:Int)) (hb:bytes*n≤281474976710656) (hn:n≤9223372036854775807)
    (h:∀ w',Blk w' w.heap.size e (List.replicate n z)→Below w.heap.size w w'→K (act.put o.dst (.slice (some ⟨w.heap.size,0,none⟩) n n)) w') :
    o.wp P act w K Q:=by
  obtain ⟨i,h0,h1,h2,h3⟩:=info_parts hinfo
  obtain ⟨w',hrun,r1,r2⟩:=run_make_full (P:=P) w w.heap.size t e i z 1 under h0 h1 h2 kl kc n (by rw [h3];exact hb) (by unfold maxLen;omega) (Nat.le_refl _)
  subst hL
  subst hC
  unfold Oper.wp
  simp [execOp,ho,hl,hc,hrun,Result.andThen]
  refine h w' ?_ ((Below.refl _ w).grown r2 (Nat.le_refl _) (fun k hk=>by cases hk))
  obtain ⟨K',hK,hlen,_,htake,_⟩:=Own.blk (show Own w' w.heap.size e 1 (some ⟨w.heap.size,0,none⟩) n n _ from r1)
  have:K'=(madeCells z.cells (n*1)).toList:=by
    rw [← htake,List.take_of_length_le (by rw [hlen];exact Nat.le_refl _)]
  rw [this] at hK
  have e2:(madeCells z.cells (n*1)).toList=List.replicate n z:=by
    rw [hz]
    apply List.ext_getElem
    · simp [madeCells]
    · intro i h1 h2
      simp [madeCells,Nat.mod_one]
  rwa [e2] at hK
theorem EG {w:World} {o:Oper} {act:Act} {K:Act→World→Prop} {Q:Exit→Act→World→Prop} {t:TypeId} (ho:o.op=Op.makeMap t none) (m:Nat)
    (h:∀ w',PendP w' w.heap.size (EF m fun _=>false)→Below w.heap.size w w'→K (act.put o.dst (.map (some w.heap.size))) w'):o.wp prog act w K Q:=by
  unfold Oper.wp
  simp [execOp,ho,run_makeMap,Result.andThen]
  exact h _ (PendP.made w m) (Ck w _)
def FR (n:Int):Prop:=64≤n∧n≤1048576∧n % 64=0
instance (n:Int):Decidable (FR n):=by unfold FR;infer_instance
def EV (n:Nat):MemM:=⟨List.replicate n 0,List.replicate n 0,EF (n / 8) fun _=>false⟩
theorem Aax {n:Nat} (h:FR n):(EV n).ok:=by
  obtain ⟨h1,h2,h3⟩:=h
  have e1:(EV n).V.length=n:=List.length_replicate
  have e2:(EV n).D.length=n:=List.length_replicate
  have e3:(EV n).A.length=n / 8:=Fs _ _
  unfold MemM.ok
  rw [e1,e2,e3]
  omega
def Po (w:World) (n:Int) (e:Ending) (w':World):Prop:=
  if FR n then ∃ g v d p,e=.returned (π g)∧MemP w' g v d p (EV n.toNat)∧(w.heap.size≤g∧w.heap.size≤v∧w.heap.size≤d∧w.heap.size≤p)∧Below w.heap.size w w' else e=.returned (.pointer none)∧w=w'
theorem Uo (n:Nat):List.replicate n (Value.int .u8 0)=(List.replicate n (0:UInt8)).map Ad:=by simp [Ad]
theorem Ia {w W:World} {n:Nat} {e:Ending} {v d p:Nat} (he:e=.returned (π W.heap.size)) (hn:FR (n:Int)) (hb:Below w.heap.size w W)
    (h1:Blk W v 5 (List.replicate n (.int .u8 0))) (h3:Blk W d 5 (List.replicate n (.int .u8 0))) (h4:PendP W p (EF (n / 8) fun _=>false)) (hne:v≠d) (n1:w.heap.size≤v) (n3:w.heap.size≤d) (n4:w.heap.size≤p) :
    Po w (n:Int) e (W.alloc (.cells #[.slice (some ⟨v,0,none⟩) n n,.slice (some ⟨d,0,none⟩) n n,.map (some p)] 57)):=by
  unfold Po
  rw [if_pos hn]
  refine ⟨W.heap.size,v,d,p,he,⟨Aax hn,hne,?_,?_,?_,?_⟩,⟨hb.size,n1,n3,n4⟩,Gu hb _⟩
  · simp only [EV,List.length_replicate,Int.toNat_natCast]
    exact AN rfl _ _
  · rw [Uo] at h1;exact h1.mono (Ck W _)
  · rw [Uo] at h3;exact h3.mono (Ck W _)
  · exact (Turns.of_below (X:=fun _=>False) (Ck W _)).pend h4 (by simp)
theorem LT (n:Int) (w:World) (hn:-9223372036854775808≤n∧n≤9223372036854775807):Calls prog 4 #[ν n] w (Po w n):=by
  by_cases h:FR n
  · obtain ⟨n,rfl⟩:∃ m:Nat,n=(m:Int):=⟨n.toNat,by have:=h.1;omega⟩
    have HN:=hid h
    obtain ⟨h1,h2,h3⟩:=h
    have d1:decide ((n:Int)<64)=false:=decide_eq_false ω
    have d2:decide (1048576<(n:Int))=false:=decide_eq_false ω
    have e1:(n:Int).tmod 64=0:=by rw [Int.tmod_eq_emod_of_nonneg ω];exact h3
    obtain ⟨W0,hW0⟩:∃ W0,W0=w.drew:=⟨_,rfl⟩
    have BW0:=hid (show Below w.heap.size w W0 by rw [hW0];exact (Below.refl _ w).drew)
    clear h3
    have hz:IntKind.i64.wrap 0=0:=rfl
    go_enter func4,ntmps4
    go_wp2_with fail
    refine wp_region_held_drew (S:=fun _=>True) κ trivial (fun hS_0=>?_)
    rw [← hW0]
    clear hW0
    refine Bc (i:=0) (v:=ν (n:Int)) rfl rfl κ κ κ (fun _ _ _ h=>h) (Or.inl ⟨Eq.refl true,fun w1 hSw=>?_⟩) hS_0 ?_
    · first | rfl | (clear hSw;go_simp;done) | (clear hSw;go_simp;rfl)
    (try simp only [Act.put,List.setIfInBounds_toArray,List.set_cons_zero,List.set_cons_succ])
    refine Bc (i:=2) (v:=ν (n:Int)) rfl rfl κ κ κ (fun _ _ _ h=>h) (Or.inl ⟨Eq.refl true,fun w1 hSw=>?_⟩) hS_0 ?_
    · first | rfl | (clear hSw;go_simp;done) | (clear hSw;go_simp;rfl)
    (try simp only [Act.put,List.setIfInBounds_toArray,List.set_cons_zero,List.set_cons_succ])
    refine wpAnyH_ready (rs:=[1,3,4]) κ (by simp) ?_
    refine AllReadyH.cons rfl (fun K hK=>?_) ?_
    · refine Bo (Eq.refl true) ?_
      refine Dp (.tmp 14) (.tmp 14) rfl υ22 (bytes:=1) (z:=.int .u8 0) κ rfl rfl rfl rfl rfl ω ω ?_;intro X1 f b
      have F1:=hid f
      have N1:=hid (show w.heap.size≤W0.heap.size from BW0.out.size)
      have BX1:=hid (Ac BW0.out b)
      refine hK.out _ _ trivial (fun hS_1=>?_)
      clear hK K f b
      (try simp only [Act.put,List.setIfInBounds_toArray,List.set_cons_zero,List.set_cons_succ])
      refine wpAnyH_ready (rs:=[3,4]) κ (by simp) ?_
      refine AllReadyH.cons rfl (fun K hK=>?_) ?_
      · refine Bo (Eq.refl true) ?_
        refine Dp (.tmp 16) (.tmp 16) rfl υ22 (bytes:=1) (z:=.int .u8 0) κ rfl rfl rfl rfl rfl ω ω ?_;intro X13 f b
        have F3:=hid f
        have N3:=hid (show w.heap.size≤X1.heap.size from BX1.out.size)
        have NE:=hid (Nat.ne_of_lt F1.out.lt)
        have F1:=hid (F1.out.mono b)
        have BX13:=hid (Ac BX1.out b)
        refine hK.out _ _ trivial (fun hS_2=>?_)
        clear hK K f b
        (try simp only [Act.put,List.setIfInBounds_toArray,List.set_cons_zero,List.set_cons_succ])
        refine wpAnyH_ready (rs:=[4]) κ (by simp) ?_
        refine AllReadyH.cons rfl (fun K hK=>?_) ?_
        · refine Bo (Eq.refl true) ?_
          refine EG rfl (n / 8) ?_;intro X134 f b
          have F4:=hid f
          have N4:=hid (show w.heap.size≤X13.heap.size from BX13.out.size)
          have F1:=hid (F1.out.mono b)
          have F3:=hid (F3.out.mono b)
          have BX134:=hid (Ac BX13.out b)
          refine hK.out _ _ trivial (fun hS_3=>?_)
          clear hK K f b
          (try simp only [Act.put,List.setIfInBounds_toArray,List.set_cons_zero,List.set_cons_succ])
          refine Bc (i:=5) (v:=.agg #[.slice (some ⟨W0.heap.size,0,none⟩) n n,.slice (some ⟨X1.heap.size,0,none⟩) n n,.map (some X13.heap.size)]) rfl rfl κ κ κ (fun _ _ _ h=>h) (Or.inl ⟨Eq.refl true,fun w1 hSw=>?_⟩) hS_3 ?_
          · first | rfl | (clear hSw;go_simp;done) | (clear hSw;go_simp;rfl)
          (try simp only [Act.put,List.setIfInBounds_toArray,List.set_cons_zero,List.set_cons_succ])
          refine wpAnyH_ready (rs:=[6]) κ (by simp) (AllReadyH.cons rfl (fun K hK=>?_) AllReadyH.nil)
          go_simp
          refine hK.out _ _ trivial (fun hS_9=>?_)
          clear hK K
          refine Bc (i:=7) (v:=π X134.heap.size) rfl rfl κ κ κ (fun _ _ _ h=>h) (Or.inl ⟨Eq.refl true,fun w1 hSw=>?_⟩) hS_9 ?_
          · first | rfl | (clear hSw;go_simp;done) | (clear hSw;go_simp;rfl)
          (try simp only [Act.put,List.setIfInBounds_toArray,List.set_cons_zero,List.set_cons_succ])
          refine wpAnyH_done κ ?_ _
          go_wp2_with fail
          go_ret
          exact Ia rfl HN.out BX134.out F1.out F3.out F4.out NE.out N1.out N3.out N4.out
        exact AllReadyH.nil
      refine AllReadyH.cons rfl (fun K hK=>?_) ?_
      · refine Bo (Eq.refl true) ?_
        refine EG rfl (n / 8) ?_;intro X14 f b
        have F4:=hid f
        have N4:=hid (show w.heap.size≤X1.heap.size from BX1.out.size)
        have F1:=hid (F1.out.mono b)
        have BX14:=hid (Ac BX1.out b)
        refine hK.out _ _ trivial (fun hS_2=>?_)
        clear hK K f b
        (try simp only [Act.put,List.setIfInBounds_toArray,List.set_cons_zero,List.set_cons_succ])
        refine wpAnyH_ready (rs:=[3]) κ (by simp) ?_
        refine AllReadyH.cons rfl (fun K hK=>?_) ?_
        · refine Bo (Eq.refl true) ?_
          refine Dp (.tmp 16) (.tmp 16) rfl υ22 (bytes:=1) (z:=.int .u8 0) κ rfl rfl rfl rfl rfl ω ω ?_;intro X143 f b
          have F3:=hid f
          have N3:=hid (show w.heap.size≤X14.heap.size from BX14.out.size)
          have NE:=hid (Nat.ne_of_lt F1.out.lt)
          have F1:=hid (F1.out.mono b)
          have F4:=hid ((Turns.of_below (X:=fun _=>False) b).pend F4.out (by simp))
          have BX143:=hid (Ac BX14.out b)
          refine hK.out _ _ trivial (fun hS_3=>?_)
          clear hK K f b
          (try simp only [Act.put,List.setIfInBounds_toArray,List.set_cons_zero,List.set_cons_succ])
          refine Bc (i:=5) (v:=.agg #[.slice (some ⟨W0.heap.size,0,none⟩) n n,.slice (some ⟨X14.heap.size,0,none⟩) n n,.map (some X1.heap.size)]) rfl rfl κ κ κ (fun _ _ _ h=>h) (Or.inl ⟨Eq.refl true,fun w1 hSw=>?_⟩) hS_3 ?_
          · first | rfl | (clear hSw;go_simp;done) | (clear hSw;go_simp;rfl)
          (try simp only [Act.put,List.setIfInBounds_toArray,List.set_cons_zero,List.set_cons_succ])
          refine wpAnyH_ready (rs:=[6]) κ (by simp) (AllReadyH.cons rfl (fun K hK=>?_) AllReadyH.nil)
          go_simp
          refine hK.out _ _ trivial (fun hS_9=>?_)
          clear hK K
          refine Bc (i:=7) (v:=π X143.heap.size) rfl rfl κ κ κ (fun _ _ _ h=>h) (Or.inl ⟨Eq.refl true,fun w1 hSw=>?_⟩) hS_9 ?_
          · first | rfl | (clear hSw;go_simp;done) | (clear hSw;go_simp;rfl)
          (try simp only [Act.put,List.setIfInBounds_toArray,List.set_cons_zero,List.set_cons_succ])
          refine wpAnyH_done κ ?_ _
          go_wp2_with fail
          go_ret
          exact Ia rfl HN.out BX143.out F1.out F3.out F4.out NE.out N1.out N3.out N4.out
        exact AllReadyH.nil
      exact AllReadyH.nil
    refine AllReadyH.cons rfl (fun K hK=>?_) ?_
    · refine Bo (Eq.refl true) ?_
      refine Dp (.tmp 16) (.tmp 16) rfl υ22 (bytes:=1) (z:=.int .u8 0) κ rfl rfl rfl rfl rfl ω ω ?_;intro X3 f b
      have F3:=hid f
      have N3:=hid (show w.heap.size≤W0.heap.size from BW0.out.size)
      have BX3:=hid (Ac BW0.out b)
      refine hK.out _ _ trivial (fun hS_1=>?_)
      clear hK K f b
      (try simp only [Act.put,List.setIfInBounds_toArray,List.set_cons_zero,List.set_cons_succ])
      refine wpAnyH_ready (rs:=[1,4]) κ (by simp) ?_
      refine AllReadyH.cons rfl (fun K hK=>?_) ?_
      · refine Bo (Eq.refl true) ?_
        refine Dp (.tmp 14) (.tmp 14) rfl υ22 (bytes:=1) (z:=.int .u8 0) κ rfl rfl rfl rfl rfl ω ω ?_;intro X31 f b
        have F1:=hid f
        have N1:=hid (show w.heap.size≤X3.heap.size from BX3.out.size)
        have NE:=hid (Nat.ne_of_lt F3.out.lt).symm
        have F3:=hid (F3.out.mono b)
        have BX31:=hid (Ac BX3.out b)
        refine hK.out _ _ trivial (fun hS_2=>?_)
        clear hK K f b
        (try simp only [Act.put,List.setIfInBounds_toArray,List.set_cons_zero,List.set_cons_succ])
        refine wpAnyH_ready (rs:=[4]) κ (by simp) ?_
        refine AllReadyH.cons rfl (fun K hK=>?_) ?_
        · refine Bo (Eq.refl true) ?_
          refine EG rfl (n / 8) ?_;intro X314 f b
          have F4:=hid f
          have N4:=hid (show w.heap.size≤X31.heap.size from BX31.out.size)
          have F3:=hid (F3.out.mono b)
          have F1:=hid (F1.out.mono b)
          have BX314:=hid (Ac BX31.out b)
          refine hK.out _ _ trivial (fun hS_3=>?_)
          clear hK K f b
          (try simp only [Act.put,List.setIfInBounds_toArray,List.set_cons_zero,List.set_cons_succ])
          refine Bc (i:=5) (v:=.agg #[.slice (some ⟨X3.heap.size,0,none⟩) n n,.slice (some ⟨W0.heap.size,0,none⟩) n n,.map (some X31.heap.size)]) rfl rfl κ κ κ (fun _ _ _ h=>h) (Or.inl ⟨Eq.refl true,fun w1 hSw=>?_⟩) hS_3 ?_
          · first | rfl | (clear hSw;go_simp;done) | (clear hSw;go_simp;rfl)
          (try simp only [Act.put,List.setIfInBounds_toArray,List.set_cons_zero,List.set_cons_succ])
          refine wpAnyH_ready (rs:=[6]) κ (by simp) (AllReadyH.cons rfl (fun K hK=>?_) AllReadyH.nil)
          go_simp
          refine hK.out _ _ trivial (fun hS_9=>?_)
          clear hK K
          refine Bc (i:=7) (v:=π X314.heap.size) rfl rfl κ κ κ (fun _ _ _ h=>h) (Or.inl ⟨Eq.refl true,fun w1 hSw=>?_⟩) hS_9 ?_
          · first | rfl | (clear hSw;go_simp;done) | (clear hSw;go_simp;rfl)
          (try simp only [Act.put,List.setIfInBounds_toArray,List.set_cons_zero,List.set_cons_succ])
          refine wpAnyH_done κ ?_ _
          go_wp2_with fail
          go_ret
          exact Ia rfl HN.out BX314.out F1.out F3.out F4.out NE.out N1.out N3.out N4.out
        exact AllReadyH.nil
      refine AllReadyH.cons rfl (fun K hK=>?_) ?_
      · refine Bo (Eq.refl true) ?_
        refine EG rfl (n / 8) ?_;intro X34 f b
        have F4:=hid f
        have N4:=hid (show w.heap.size≤X3.heap.size from BX3.out.size)
        have F3:=hid (F3.out.mono b)
        have BX34:=hid (Ac BX3.out b)
        refine hK.out _ _ trivial (fun hS_2=>?_)
        clear hK K f b
        (try simp only [Act.put,List.setIfInBounds_toArray,List.set_cons_zero,List.set_cons_succ])
        refine wpAnyH_ready (rs:=[1]) κ (by simp) ?_
        refine AllReadyH.cons rfl (fun K hK=>?_) ?_
        · refine Bo (Eq.refl true) ?_
          refine Dp (.tmp 14) (.tmp 14) rfl υ22 (bytes:=1) (z:=.int .u8 0) κ rfl rfl rfl rfl rfl ω ω ?_;intro X341 f b
          have F1:=hid f
          have N1:=hid (show w.heap.size≤X34.heap.size from BX34.out.size)
          have NE:=hid (Nat.ne_of_lt F3.out.lt).symm
          have F3:=hid (F3.out.mono b)
          have F4:=hid ((Turns.of_below (X:=fun _=>False) b).pend F4.out (by simp))
          have BX341:=hid (Ac BX34.out b)
          refine hK.out _ _ trivial (fun hS_3=>?_)
          clear hK K f b
          (try simp only [Act.put,List.setIfInBounds_toArray,List.set_cons_zero,List.set_cons_succ])
          refine Bc (i:=5) (v:=.agg #[.slice (some ⟨X34.heap.size,0,none⟩) n n,.slice (some ⟨W0.heap.size,0,none⟩) n n,.map (some X3.heap.size)]) rfl rfl κ κ κ (fun _ _ _ h=>h) (Or.inl ⟨Eq.refl true,fun w1 hSw=>?_⟩) hS_3 ?_
          · first | rfl | (clear hSw;go_simp;done) | (clear hSw;go_simp;rfl)
          (try simp only [Act.put,List.setIfInBounds_toArray,List.set_cons_zero,List.set_cons_succ])
          refine wpAnyH_ready (rs:=[6]) κ (by simp) (AllReadyH.cons rfl (fun K hK=>?_) AllReadyH.nil)
          go_simp
          refine hK.out _ _ trivial (fun hS_9=>?_)
          clear hK K
          refine Bc (i:=7) (v:=π X341.heap.size) rfl rfl κ κ κ (fun _ _ _ h=>h) (Or.inl ⟨Eq.refl true,fun w1 hSw=>?_⟩) hS_9 ?_
          · first | rfl | (clear hSw;go_simp;done) | (clear hSw;go_simp;rfl)
          (try simp only [Act.put,List.setIfInBounds_toArray,List.set_cons_zero,List.set_cons_succ])
          refine wpAnyH_done κ ?_ _
          go_wp2_with fail
          go_ret
          exact Ia rfl HN.out BX341.out F1.out F3.out F4.out NE.out N1.out N3.out N4.out
        exact AllReadyH.nil
      exact AllReadyH.nil
    refine AllReadyH.cons rfl (fun K hK=>?_) ?_
    · refine Bo (Eq.refl true) ?_
      refine EG rfl (n / 8) ?_;intro X4 f b
      have F4:=hid f
      have N4:=hid (show w.heap.size≤W0.heap.size from BW0.out.size)
      have BX4:=hid (Ac BW0.out b)
      refine hK.out _ _ trivial (fun hS_1=>?_)
      clear hK K f b
      (try simp only [Act.put,List.setIfInBounds_toArray,List.set_cons_zero,List.set_cons_succ])
      refine wpAnyH_ready (rs:=[1,3]) κ (by simp) ?_
      refine AllReadyH.cons rfl (fun K hK=>?_) ?_
      · refine Bo (Eq.refl true) ?_
        refine Dp (.tmp 14) (.tmp 14) rfl υ22 (bytes:=1) (z:=.int .u8 0) κ rfl rfl rfl rfl rfl ω ω ?_;intro X41 f b
        have F1:=hid f
        have N1:=hid (show w.heap.size≤X4.heap.size from BX4.out.size)
        have F4:=hid ((Turns.of_below (X:=fun _=>False) b).pend F4.out (by simp))
        have BX41:=hid (Ac BX4.out b)
        refine hK.out _ _ trivial (fun hS_2=>?_)
        clear hK K f b
        (try simp only [Act.put,List.setIfInBounds_toArray,List.set_cons_zero,List.set_cons_succ])
        refine wpAnyH_ready (rs:=[3]) κ (by simp) ?_
        refine AllReadyH.cons rfl (fun K hK=>?_) ?_
        · refine Bo (Eq.refl true) ?_
          refine Dp (.tmp 16) (.tmp 16) rfl υ22 (bytes:=1) (z:=.int .u8 0) κ rfl rfl rfl rfl rfl ω ω ?_;intro X413 f b
          have F3:=hid f
          have N3:=hid (show w.heap.size≤X41.heap.size from BX41.out.size)
          have NE:=hid (Nat.ne_of_lt F1.out.lt)
          have F4:=hid ((Turns.of_below (X:=fun _=>False) b).pend F4.out (by simp))
          have F1:=hid (F1.out.mono b)
          have BX413:=hid (Ac BX41.out b)
          refine hK.out _ _ trivial (fun hS_3=>?_)
          clear hK K f b
          (try simp only [Act.put,List.setIfInBounds_toArray,List.set_cons_zero,List.set_cons_succ])
          refine Bc (i:=5) (v:=.agg #[.slice (some ⟨X4.heap.size,0,none⟩) n n,.slice (some ⟨X41.heap.size,0,none⟩) n n,.map (some W0.heap.size)]) rfl rfl κ κ κ (fun _ _ _ h=>h) (Or.inl ⟨Eq.refl true,fun w1 hSw=>?_⟩) hS_3 ?_
          · first | rfl | (clear hSw;go_simp;done) | (clear hSw;go_simp;rfl)
          (try simp only [Act.put,List.setIfInBounds_toArray,List.set_cons_zero,List.set_cons_succ])
          refine wpAnyH_ready (rs:=[6]) κ (by simp) (AllReadyH.cons rfl (fun K hK=>?_) AllReadyH.nil)
          go_simp
          refine hK.out _ _ trivial (fun hS_9=>?_)
          clear hK K
          refine Bc (i:=7) (v:=π X413.heap.size) rfl rfl κ κ κ (fun _ _ _ h=>h) (Or.inl ⟨Eq.refl true,fun w1 hSw=>?_⟩) hS_9 ?_
          · first | rfl | (clear hSw;go_simp;done) | (clear hSw;go_simp;rfl)
          (try simp only [Act.put,List.setIfInBounds_toArray,List.set_cons_zero,List.set_cons_succ])
          refine wpAnyH_done κ ?_ _
          go_wp2_with fail
          go_ret
          exact Ia rfl HN.out BX413.out F1.out F3.out F4.out NE.out N1.out N3.out N4.out
        exact AllReadyH.nil
      refine AllReadyH.cons rfl (fun K hK=>?_) ?_
      · refine Bo (Eq.refl true) ?_
        refine Dp (.tmp 16) (.tmp 16) rfl υ22 (bytes:=1) (z:=.int .u8 0) κ rfl rfl rfl rfl rfl ω ω ?_;intro X43 f b
        have F3:=hid f
        have N3:=hid (show w.heap.size≤X4.heap.size from BX4.out.size)
        have F4:=hid ((Turns.of_below (X:=fun _=>False) b).pend F4.out (by simp))
        have BX43:=hid (Ac BX4.out b)
        refine hK.out _ _ trivial (fun hS_2=>?_)
        clear hK K f b
        (try simp only [Act.put,List.setIfInBounds_toArray,List.set_cons_zero,List.set_cons_succ])
        refine wpAnyH_ready (rs:=[1]) κ (by simp) ?_
        refine AllReadyH.cons rfl (fun K hK=>?_) ?_
        · refine Bo (Eq.refl true) ?_
          refine Dp (.tmp 14) (.tmp 14) rfl υ22 (bytes:=1) (z:=.int .u8 0) κ rfl rfl rfl rfl rfl ω ω ?_;intro X431 f b
          have F1:=hid f
          have N1:=hid (show w.heap.size≤X43.heap.size from BX43.out.size)
          have NE:=hid (Nat.ne_of_lt F3.out.lt).symm
          have F4:=hid ((Turns.of_below (X:=fun _=>False) b).pend F4.out (by simp))
          have F3:=hid (F3.out.mono b)
          have BX431:=hid (Ac BX43.out b)
          refine hK.out _ _ trivial (fun hS_3=>?_)
          clear hK K f b
          (try simp only [Act.put,List.setIfInBounds_toArray,List.set_cons_zero,List.set_cons_succ])
          refine Bc (i:=5) (v:=.agg #[.slice (some ⟨X43.heap.size,0,none⟩) n n,.slice (some ⟨X4.heap.size,0,none⟩) n n,.map (some W0.heap.size)]) rfl rfl κ κ κ (fun _ _ _ h=>h) (Or.inl ⟨Eq.refl true,fun w1 hSw=>?_⟩) hS_3 ?_
          · first | rfl | (clear hSw;go_simp;done) | (clear hSw;go_simp;rfl)
          (try simp only [Act.put,List.setIfInBounds_toArray,List.set_cons_zero,List.set_cons_succ])
          refine wpAnyH_ready (rs:=[6]) κ (by simp) (AllReadyH.cons rfl (fun K hK=>?_) AllReadyH.nil)
          go_simp
          refine hK.out _ _ trivial (fun hS_9=>?_)
          clear hK K
          refine Bc (i:=7) (v:=π X431.heap.size) rfl rfl κ κ κ (fun _ _ _ h=>h) (Or.inl ⟨Eq.refl true,fun w1 hSw=>?_⟩) hS_9 ?_
          · first | rfl | (clear hSw;go_simp;done) | (clear hSw;go_simp;rfl)
          (try simp only [Act.put,List.setIfInBounds_toArray,List.set_cons_zero,List.set_cons_succ])
          refine wpAnyH_done κ ?_ _
          go_wp2_with fail
          go_ret
          exact Ia rfl HN.out BX431.out F1.out F3.out F4.out NE.out N1.out N3.out N4.out
        exact AllReadyH.nil
      exact AllReadyH.nil
    exact AllReadyH.nil
  · have hE:Po w n (.returned (.pointer none)) w:=by unfold Po;rw [if_neg h];exact ⟨rfl,rfl⟩
    have HE:=hid hE
    clear hE
    by_cases h1:64≤n
    · have d1:decide (n<64)=false:=decide_eq_false ω
      by_cases h2:n≤1048576
      · have d2:decide (1048576<n)=false:=decide_eq_false ω
        have h3:¬ n % 64=0:=fun q=>h ⟨h1,h2,q⟩
        have e1:n.tmod 64=n % 64:=Int.tmod_eq_emod_of_nonneg ω
        have e2:IntKind.i64.wrap (n % 64)=n % 64:=IntWalk.i64_in _ ω
        clear h
        generalize n % 64=r at *
        have d3:(r != 0)=true:=by simpa using h3
        go_enter func4,ntmps4
        go_wp2
        go_ret
        exact HE.out
      · have d2:decide (1048576<n)=true:=decide_eq_true ω
        go_enter func4,ntmps4
        go_wp2
        go_ret
        exact HE.out
    · have d1:decide (n<64)=true:=decide_eq_true ω
      go_enter func4,ntmps4
      go_wp2
      go_ret
      exact HE.out
end
section
def GO (X:Λ) (M:MemM) (at_ n:Int) (w:World) (e:Ending) (w':World):Prop:=
  if inM M at_ n=true then ∃ a c,e=.returned (.tuple #[.slice a n.toNat c,ν 0])∧CF w' w.heap.size a c ((X.drop at_.toNat).take n.toNat)∧Below w.heap.size w w' else e=.returned (.tuple #[.slice none 0 0,ν 1])∧w=w'
theorem Ha {M:MemM} {at_ n:Int} (h:inM M at_ n=true):∃ a m:Nat,at_=a∧n=m∧a+m≤M.V.length:=by
  have:=of_decide_eq_true h
  exact ⟨at_.toNat,n.toNat,ω,ω,ω⟩
theorem Hf {w:World} {g v d p:Nat} {M:MemM} (h:MemP w g v d p M) (at_ n:Int) (ha:-9223372036854775808≤at_∧at_≤9223372036854775807) (hn:-9223372036854775808≤n∧n≤9223372036854775807) :
    Calls prog 13 #[π g,ν at_,ν n] w (GO M.V M at_ n w):=by
  have HW:=hid (IJ h at_ n ha hn)
  by_cases hi:inM M at_ n=true
  · have hE:GO M.V M at_ n w=fun e w'=>∃ a c,e=.returned (.tuple #[.slice a n.toNat c,ν 0])∧CF w' w.heap.size a c ((M.V.drop at_.toNat).take n.toNat)∧Below w.heap.size w w':=by
      funext e w';unfold GO;rw [if_pos hi]
    rw [hE]
    clear hE
    rw [hi] at HW
    obtain ⟨a0,n0,rfl,rfl,hl⟩:=Ha hi
    rw [show ((a0:Int)).toNat=a0 from rfl,show ((n0:Int)).toNat=n0 from rfl]
    obtain ⟨c0,c1,c2⟩:=h.cells
    have hVl:=h.1.2.2.2.2
    have e1:IntKind.i64.wrap ((a0:Int)+n0)=(a0:Int)+n0:=IntWalk.i64_in _ ω
    have f1:(0≤(a0:Int)+n0)=True:=eq_true ω
    have f2:((a0:Int)+n0≤(M.V.length:Int))=True:=eq_true ω
    have f3:((a0:Int)+n0).toNat=a0+n0:=ω
    have f5:((a0:Int)≤(M.V.length:Int))=True:=eq_true ω
    have f6:(a0≤M.V.length)=True:=eq_true ω
    have f7:(a0+n0≤M.V.length)=True:=eq_true ω
    have f8:(a0≤a0+n0)=True:=eq_true ω
    have hyl:((M.V.drop a0).take n0).length=n0:=by simp;omega
    by_cases h4:M.V.length=a0
    · obtain rfl:n0=0:=ω
      have HC:Hid (Calls prog 37 #[.slice (some ⟨v,0,none⟩) 0 0] w (UC w [])):=Ln (some ⟨v,0,none⟩) 0 [] w ⟨rfl,Nat.le_refl _,Nat.zero_le _,(fun h=>by cases h),fun h=>absurd h (by simp)⟩ (by simp)
      rw [List.take_zero]
      clear hyl h hi f1 f2 f3 f5 f6 f7 f8 e1
      subst h4
      have e1:IntKind.i64.wrap (M.V.length:Int)=(M.V.length:Int):=IntWalk.i64_in _ ω
      go_enter func13,ntmps13
      go_wp2_with (first | (go_at_call 36;refine HW.out.mono ?_;rintro e w1 ⟨rfl,rfl⟩) | (go_at_call 37;refine HC.out.mono ?_;rintro e w1 ⟨a1,k1,rfl,o1,b1⟩))
      go_ret2
      exact ⟨a1,k1,rfl,o1,b1⟩
    · have hrow:RowB w (some ⟨v,a0,none⟩) (M.V.length-a0) ((M.V.drop a0).take n0):=by
        have:=Abn h.2.2.2.1 a0 n0 (M.V.length-a0) ω ω (by simp;omega)
        rw [← List.map_drop,← List.map_take] at this
        unfold RowB
        rw [hyl];exact this
      have hc:=Ln _ _ _ w hrow ω
      rw [hyl] at hc
      have HC:=hid hc
      have f4:(M.V.length=a0)=False:=eq_false h4
      generalize (M.V.drop a0).take n0=ys at *
      have HY:=hid hyl
      clear hyl h hi hc hrow h4
      go_enter func13,ntmps13
      go_wp2_with (first | (go_at_call 36;refine HW.out.mono ?_;rintro e w1 ⟨rfl,rfl⟩) | (go_at_call 37;refine HC.out.mono ?_;rintro e w1 ⟨a1,k1,rfl,o1,b1⟩))
      go_ret2
      exact ⟨a1,k1,(by rw [HY.out];rfl),o1,b1⟩
  · have hE:GO M.V M at_ n w=fun e w'=>e=.returned (.tuple #[.slice none 0 0,ν 1])∧w=w':=by
      funext e w';unfold GO;rw [if_neg hi]
    rw [hE]
    clear hE
    rw [show inM M at_ n=false by simpa using hi] at HW
    clear hi h
    go_enter func13,ntmps13
    go_wp2_with (first | (go_at_call 36;refine HW.out.mono ?_;rintro e w1 ⟨rfl,rfl⟩))
    go_ret2
    exact ⟨rfl,rfl⟩
theorem MemP.mono {w w':World} {g v d p:Nat} {M:MemM} (h:MemP w g v d p M) (b:Below w.heap.size w w'):MemP w' g v d p M:=h.turns (X:=fun _=>False) (Turns.of_below b) id id id id
abbrev Ag1 (L:List Nat):List Value:=L.map fun (k:Nat)=>iV (k:Int)
abbrev Ahx (w:World) (B:Nat) (a:Ω) (c:Nat) (L:List Nat):Prop:=Own w B 3 1 a L.length c (Ag1 L)
def Agp (V D:Λ) (n:Nat):List Nat:=(List.range n).filter (DN V D)
theorem Turns.ranges {X:Nat→Prop} {w w':World} {H:Type} {P:Program} {k:TypeId} {R:Value→Option (DataW H×List MemPlace)} {b r n:Nat} {D:DataW H} {left:Lit→Bool} {cnt:Nat} (t:Turns X w w') (h:w.ranges P k R b r n D left cnt) (hb:¬ X b) (hr:¬ X r):w'.ranges P k R b r n D left cnt:=by
  have h1:=h.owns.lt
  have h2:=h.lt
  obtain ⟨es,clock,since,seen,c0,hb',F,hs,hD,hr',rest⟩:=h
  exact ⟨es,clock,since,seen,c0,(t.block b h1 hb).trans hb',F,hs,hD,(t.block r h2 hr).trans hr',rest⟩
theorem QO (i k:Int):(Lit.int .i64 i).sameKey (.int .i64 k)=decide (i=k):=by simp [Lit.sameKey]
theorem Og {w:World} {ops:Array Oper} {rest:List Oper} {o:Oper} {a:Act} {Q:Exit→Act→World→Prop} (hg:o.guard=none) (it:Operand) (hop:o.op=Op.next it false) {p r n:Nat} {D:DataW Unit} {left:Lit→Bool} {cnt:Nat}
    (hit:a.eval it=π r) (h:w.ranges prog 3 unitElem p r n D left cnt)
    (hDone:(∀ kl,left kl=false)→wpList prog ops Q rest (a.put o.dst (.tuple #[.bool false])) w)
    (hMore:∀ (x:Int) (w':World) (cnt':Nat),(Lit.int .i64 x).wf=true→left (.int .i64 x)=true→w'.ranges Tryz.prog 3 unitElem p r n D (fun z=>left z&&!z.sameKey (.int .i64 x)) cnt'→cnt'<cnt →
      w.grownBy w' (some r)→(Instr.entry (π r)).run prog w'=.ok (.tuple #[ν x,.agg #[]]) w'→wpList prog ops Q rest (a.put o.dst (.tuple #[.bool true,ν x,.agg #[]])) w') :
    wpList prog ops Q (o::rest) a w:=by
  refine wpList_next_ranges w hg it hop 3 Hc unitElem (Value.int .i64) (fun _:Unit=>Value.agg #[]) (fun key kl hk=>?_) (fun v y hv=>⟨(),(unitElem_inv hv).1⟩) p r n D left cnt hit h (fun _ hl=>hDone hl) ?_
  · obtain ⟨x,rfl,_⟩:=Maps.keyOf_int_inv υ3 hk;exact ⟨x,rfl⟩
  · intro x c kl y w' cnt' hk hl hv _ hr hlt hgr _ hen
    obtain ⟨x',e1,rfl,hwf⟩:=Maps.keyOf_int_inv υ3 hk
    cases e1
    exact hMore x w' cnt' hwf hl hr hlt hgr hen
theorem Mh {A:List Bool} {x:Int} (h:Fo A x=true):∃ k:Nat,x=k∧k<A.length∧A.getD k false=true:=by
  unfold Fo at h
  simp only [Bool.and_eq_true,decide_eq_true_eq] at h
  refine ⟨x.toNat,ω,?_,h.2⟩
  by_cases q:x.toNat<A.length
  · exact q
  · have:=h.2
    simp [List.getD_eq_getElem?_getD,List.getElem?_eq_none (Nat.le_of_not_lt q)] at this
theorem UZ {w:World} {g v d p:Nat} {M:MemM} (h:MemP w g v d p M) :
    Calls prog 28 #[π g] w fun e w'=>(∃ x,e=.returned x)∧MemP w' g v d p (JT M)∧Turns (fun b=>b=d∨b=p) w w':=by
  obtain ⟨av,ag1,ag2,ap1,ap2,ap3,gl,vl,dl,pl⟩:=CQ h
  obtain ⟨D,n,hown,hD,hsz⟩:=h.2.2.2.2.2
  obtain ⟨c0,c1,c2⟩:=h.cells
  have H:=hid h
  have HDD:=hid hD
  clear h hD hsz
  go_enter func28,ntmps28
  go_wp2_with (first | (at_range;refine wpList_range_own _ rfl _ 55 rfl 3 123 Hc υ55 unitElem p n D rfl hown ?_;intro w0 hrg0 hg0 hs0))
  go_frame
  have B0:Below w.heap.size w w0:=(Below.refl _ w).grown hg0 (Nat.le_refl _) (fun k hk=>by cases hk)
  go_loopw [2] (fun _ wr=>∃ left cnt,wr.ranges Tryz.prog 3 unitElem p w.heap.size n D left cnt∧(∀ i:Int,left (.int .i64 i)=true→Fo M.A i=true)∧MemP wr g v d p ⟨M.V,Fl (fun i=>M.A.getD i false&&!left (.int .i64 (i:Int))) M.V M.D,M.A⟩∧Turns (fun b=>b=d) w wr) (fun _ wr=>wr.rangeLeft p w.heap.size)
  case atStart=>
    refine ⟨_,_,hrg0,fun i hi=>by rw [← HDD.out];exact hi,?_,Turns.of_below B0⟩
    have:=H.out.mono B0
    rw [show Fl (fun i=>M.A.getD i false&&!Maps.has D (.int .i64 (i:Int))) M.V M.D=M.D from ?_]
    · exact this
    · rw [Du (g:=fun _=>false) (fun k _=>by rw [HDD.out,Ic];simp),NC]
  case round=>
    obtain ⟨left,cnt,hrg,hle,hm,ht⟩:=hrel
    obtain ⟨k0,k1,k2⟩:=hm.cells
    have HM:=hid hm;have HT:=hid ht;have HLE:=hid hle;have HRG:=hid hrg
    clear hm ht hle hown hrg0 hg0 hs0 B0
    go_wp2_with (first | (at_next;refine Og rfl _ rfl rfl HRG.out ?_ ?_))
    · intro hl0
      have hm1:=HM.out
      rw [Du (g:=fun i=>M.A.getD i false) (fun k _=>by rw [hl0];simp)] at hm1
      have HM1:=hid hm1
      clear hm1 hl0
      obtain ⟨w3,hrun,p3,g3⟩:=HM1.out.2.2.2.2.2.clear (ty:=0) υ55 M.A.length
      have P3:=hid p3;have G3:=hid g3
      clear p3 g3
      go_wp2
      go_end0
      have t3:Turns (fun b=>b=p) wr w3:=Turns.of_grown G3.out rfl
      obtain ⟨m1,m2,m3,m4,m5,m6⟩:=HM1.out
      exact ⟨⟨_,rfl⟩,⟨Ns H.out.1,m2,t3.blk m3 (by intro q;exact ap1 q.symm),t3.blk m4 (by intro q;exact ap2 q.symm),t3.blk m5 (by intro q;exact ap3 q.symm),P3.out⟩,(HT.out.mono (fun _ q=>.inl q)).trans (t3.mono (fun _ q=>.inr q))⟩
    · intro x w1 cnt1 hwx hlx hrg1 hlt hg1 hen
      obtain ⟨k,rfl,hkl,hkA⟩:=Mh (HLE.out x hlx)
      have t1:Turns (fun b=>b=w.heap.size) wr w1:=Turns.of_grown hg1 rfl
      have m1:=HM.out.turns t1 ω ω ω ω
      have HP:=hid (Ky m1 k hkl)
      have HR1:=hid hrg1
      have T1:=hid t1
      have HKA:=hid hkA
      have HLT:=hid hlt
      clear m1 hrg1 hg1 t1 hwx hlx hkA hlt
      go_wp2_with (first | (go_at_call 68;refine HP.out.mono ?_;rintro e w2 ⟨⟨x,rfl⟩,m2,t2⟩;have M2:=hid m2;have T2:=hid t2;clear m2 t2))
      go_roundw
      case rel=>
        refine ⟨_,cnt1,T2.out.ranges HR1.out ap3 ω,fun i hi=>?_,?_,(HT.out.trans' T1.out (fun b hb q=>?_)).trans T2.out⟩
        · simp only [Bool.and_eq_true] at hi
          exact HLE.out i hi.1
        · have:=M2.out
          rw [ND] at this
          rw [Du (g:=fun i=>M.A.getD i false&&!left (.int .i64 (i:Int))||i == k) (fun i _=>?_)]
          · exact this
          · rw [QO]
            by_cases e:i=k
            · subst e;rw [HKA.out];simp
            · have:¬ ((i:Int)=(k:Int)):=ω
              simp [this,e]
        · omega
      case measure=>rw [(T2.out.ranges HR1.out ap3 ω).left_eq,HRG.out.left_eq];exact HLT.out
end
section
def Agv (L:List Int):Prop:=∀ x∈L,-9223372036854775808≤x∧x≤9223372036854775807
end
section
def KeepUp (B:Nat) (W W':World):Prop:=W.heap.size≤W'.heap.size∧∀ k,B≤k→k<W.heap.size→W'.heap[k]? = W.heap[k]?
def StabC {β:Type} (B:Nat) (I:β→World→Prop):Prop:=∀ s X Y,I s X→Below B X Y→I s Y
theorem KeepUp.refl (B:Nat) (W:World):KeepUp B W W:=⟨Nat.le_refl _,fun _ _ _=>rfl⟩
theorem KeepUp.trans {B:Nat} {W W1 W2:World} (a:KeepUp B W W1) (b:KeepUp B W1 W2):KeepUp B W W2:=
  ⟨Nat.le_trans a.1 b.1,fun k h1 h2=>(b.2 k h1 (Nat.lt_of_lt_of_le h2 a.1)).trans (a.2 k h1 h2)⟩
theorem KeepUp.mono {B B':Nat} {W W':World} (a:KeepUp B W W') (h:B≤B'):KeepUp B' W W':=⟨a.1,fun k h1 h2=>a.2 k (Nat.le_trans h h1) h2⟩
theorem KeepUp.alloc {B:Nat} {W W':World} (a:KeepUp B W W') (o:Obj):KeepUp B W (W'.alloc o):=
  a.trans ⟨by simp,fun k _ h2=>Below.heap_alloc _ _ _ h2⟩
theorem KeepUp.drew {B:Nat} {W W':World} (a:KeepUp B W W'):KeepUp B W W'.drew:=⟨a.1,a.2⟩
theorem KeepUp.setCell {B:Nat} {W W':World} (a:KeepUp B W W') {p:Addr} (hp:p.block<B) (v:Value):KeepUp B W (W'.setCell p v):=by
  refine ⟨Nat.le_trans a.1 (by simp [World.setCell]),fun k h1 h2=>?_⟩
  rw [Below.heap_setCell _ _ _ _ ω]
  exact a.2 k h1 h2
theorem KeepUp.of_below {B:Nat} {W W':World} (h:Below W.heap.size W W'):KeepUp B W W':=⟨h.size,fun k _ h2=>h.block k h2⟩
theorem KeepUp.of_grown {B g:Nat} {W W':World} (h:W.grownBy W' (some g)) (hg:g<B):KeepUp B W W':=
  ⟨h.size,fun k h1 h2=>h.block k h2 (by simp;omega)⟩
theorem KeepUp.blk {B g:Nat} {W W':World} {e:TypeId} {L:List Value} (a:KeepUp B W W') (hg:B≤g) (h:Blk W g e L):Blk W' g e L:=(a.2 g hg h.lt).trans h
theorem BE {B l:Nat} {X Y:World} (h:Below B X Y) (o:Obj) (hl:B≤l):Below B X (Y.putObj l o):=
  ⟨h.os,h.tape,h.output,by rw [World.putObj_size];exact h.size,fun k hk=>(World.putObj_heap_other ω).trans (h.block k hk)⟩
theorem StabC.alloc {β:Type} {B:Nat} {I:β→World→Prop} (h:StabC B I) {s:β} {W:World} (hB:B≤W.heap.size) (hs:I s W) (o:Obj):I s (W.alloc o):=
  h s _ _ hs ((Below.refl B W).alloc hB o)
theorem StabC.putObj {β:Type} {B:Nat} {I:β→World→Prop} (h:StabC B I) {s:β} {W:World} (hs:I s W) {l:Nat} (hl:B≤l) (o:Obj):I s (W.putObj l o):=
  h s _ _ hs (BE (Below.refl B W) o hl)
theorem StabC.and {β:Type} {B:Nat} {I I':β→World→Prop} (h:StabC B I) (h':StabC B I'):StabC B (fun s W=>I s W∧I' s W):=fun s X Y a b=>⟨h s X Y a.1 b,h' s X Y a.2 b⟩
theorem StabC.below {β:Type} {B n:Nat} {w:World} (h:n≤B):StabC B (fun (_:β) W=>Below n w W):=fun _ _ _ a b=>a.trans (b.mono h)
theorem StabC.blk {β:Type} {B g:Nat} {e:TypeId} (hg:g<B) (f:β→List Value):StabC B (fun s W=>Blk W g e (f s)):=fun _ _ _ a b=>(b.block g hg).trans a
theorem StabC.pure {β:Type} {B:Nat} (p:β→Prop):StabC B (fun s _=>p s):=fun _ _ _ a _=>a
def Aco {α:Type} (F:Fence) (n:Nat) (P:Program) (g:Nat) (lb:Array Value) (encs:α→Array Value) (S Sp:List α→Prop) (N:Nat) (w0:World):Prop:=
  ∀ (l:Nat) (J Jx:List α→World→Prop) (W:World),Below w0.heap.size w0 W→StabC W.heap.size J→StabC W.heap.size Jx →
    (∀ pre x W1,J pre W1→pre.length<N→Sp (pre++[x])→YieldAt F (n-1) P l (encs x) W1 fun e W'=>
      (e=.returned (.bool true)∧J (pre++[x]) W'∧KeepUp W.heap.size W1 W')∨(e=.returned (.bool false)∧Jx (pre++[x]) W')) →
    J [] W →
    CallsIn F n P g (#[.func (.yield l) #[] #[]]++lb) W fun e W'=>(∃ v,e=.returned v)∧((∃ xs,S xs∧J xs W')∨(∃ pre,Sp pre∧Jx pre W'))
def QA {α:Type} (B:Nat) (I:List α→World→Prop) (Ix:Code→List α→World→Prop) (xs:List α) (W:World):Exit→Act→World→Prop
  | .normal,_,W'=>KeepUp B W W'∧I xs W'
  | .ret,_,W'=>KeepUp B W W'∧Ix .ret xs W'
  | .exit id,_,W'=>KeepUp B W W'∧Ix (.exit id) xs W'
  | .goto t,_,W'=>KeepUp B W W'∧Ix (.goto t) xs W'
  | .panic _,_,_=>False
  | .outgrown,_,_=>False
theorem Dd {F:Fence} {n:Nat} {P:Program} {α:Type} {g:Operand} {ps:Array Tmp} {assign body:Code} {Q:Exit→Act→World→Prop} {a:Act} {w:World}
    (hro:F.round=none) (h1:1≤n) {gf:Nat} {lb:Array Value} (hg:a.eval g=.func (.func gf) #[] lb) (hFg:F.fn gf) (eg:∀ args w,(callFunc gf args).run P w=.ok (.enter gf args) w)
    {encs:α→Array Value} {S Sp:List α→Prop} {N:Nat} {w0:World} (hseq:Aco F (n-1) P gf lb encs S Sp N w0) (hb0:Below w0.heap.size w0 w) (hps:∀ x,(encs x).size=ps.size)
    (I:List α→World→Prop) (Ix:Code→List α→World→Prop) (hI:StabC w.heap.size I) (hIx:∀ c,StabC w.heap.size (Ix c)) (h0:I [] w)
    (Ax:α→Act→World→Prop) (hAx:∀ x a' X l o o',Ax x a' X→X.heap[l]? = some (.loop o)→Ax x a' (X.putObj l o'))
    (hassign:∀ (l:Nat) (pre:List α) (x:α) (W:World) (K:Act→World→Prop),I pre W→w.heap.size≤W.heap.size→(∀ a' W',KeepUp w.heap.size W W'→I pre W'→Ax x a' W'→K a' W') →
      assign.wpIn (F.inRound l) (n-1-1) P (Exit.then K (fun _ _ _=>False)) { tmps:=(ps.zip (encs x)).foldl (fun t (p,v)=>t.setIfInBounds p v) a.tmps,defers:=[] } W)
    (hbody:∀ (l:Nat) (pre:List α) (x:α) (a':Act) (W:World),I pre W→Ax x a' W→w.heap.size≤W.heap.size→pre.length<N→Sp (pre++[x])→body.wpIn (F.inRound l) (n-1-1) P (QA w.heap.size I Ix (pre++[x]) W) a' W)
    (hdone:∀ (D:Nat) (xs:List α) (W:World),w.heap.size≤D→S xs→I xs W→W.heap[D]? = some (.deferred (some []))→Q .normal { a with defers:={ target:=.collected D,args:=#[] }::a.defers } W)
    (hstop:∀ (D:Nat) (c:Code) (pre:List α) (W:World),w.heap.size≤D→Sp pre→Ix c pre W→W.heap[D]? = some (.deferred (some []))→c.wpIn F n P Q { a with defers:={ target:=.collected D,args:=#[] }::a.defers } W) :
    (Code.rangeFunc g ps assign body).wpIn F n P Q a w:=by
  refine wpIn_rangeFunc ?_
  intro fn hfn
  rw [hro]
  obtain ⟨rec,hrec⟩:∃ rec:LoopState→Option Code→Loop,rec=fun st pe=>{ state:=st,pending:=pe,fn,tmps:=a.tmps,params:=ps,assign,body,defers:=w.heap.size }:=⟨_,rfl⟩
  obtain ⟨W1,hW1⟩:∃ W1,(w.alloc (.deferred (some []))).alloc (.loop (rec .ready none))=W1:=⟨_,rfl⟩
  have hs1:W1.heap.size=w.heap.size+2:=by rw [← hW1];simp
  have hL1:W1.heap[w.heap.size+1]? = some (.loop (rec .ready none)):=by
    rw [← hW1];have:=World.alloc_heap_new (w.alloc (.deferred (some []))) (.loop (rec .ready none));rwa [World.size_alloc] at this
  have hK1:W1.heap[w.heap.size]? = some (.deferred (some [])):=by
    rw [← hW1];exact (Below.heap_alloc _ _ _ (by simp)).trans (World.alloc_heap_new w _)
  have hI1:I [] W1:=by rw [← hW1];exact hI.alloc (by simp) (hI.alloc (Nat.le_refl _) h0 _) _
  have hb1:Below w0.heap.size w0 W1:=by
    rw [← hW1];exact hb0.trans ((((Below.refl _ w).alloc (Nat.le_refl _) _).alloc (by simp) _).mono hb0.size)
  refine ⟨w.heap.size+1,[{ target:=.collected w.heap.size,args:=#[] }],W1,{ target:=.fn (.func gf) lb,args:=#[.func (.yield (w.heap.size+1)) #[] #[]] },W1,gf,
    #[.func (.yield (w.heap.size + 1)) #[] #[]] ++ lb, W1, ?_, ?_, ?_, ?_, fun _ => h1, ?_⟩
  · rw [← hW1,hrec];exact run_enterLoop_outer _ _ _ _ _
  · simp only [resolve,hg]
    simp [go_sem]
  · intro f' hf';simp [Target.leads] at hf';subst hf';exact hFg
  · simp [invoke,go_sem,eg]
  · refine (hseq (w.heap.size+1)
      (fun pre W=>I pre W∧W.heap[w.heap.size+1]? = some (.loop (rec .ready none))∧W.heap[w.heap.size]? = some (.deferred (some [])))
      (fun pre W=>∃ c,Ix c pre W∧W.heap[w.heap.size+1]? = some (.loop (rec .done (some c)))∧W.heap[w.heap.size]? = some (.deferred (some [])))
      W1 hb1
      (fun s A B hs hb=>⟨hI s A B hs.1 (hb.mono ω),(hb.block _ ω).trans hs.2.1,(hb.block _ ω).trans hs.2.2⟩)
      (fun s A B hs hb=>by
        obtain ⟨c,hc,hl,hk⟩:=hs
        exact ⟨c,hIx c s A B hc (hb.mono ω),(hb.block _ ω).trans hl,(hb.block _ ω).trans hk⟩)
      ?_ ⟨hI1,hL1,hK1⟩).mono ?_
    · -- one round
      rintro pre x W ⟨hi,hl,hk⟩ hlen hsp
      have hlt:w.heap.size+1<W.heap.size:=(Array.getElem?_eq_some_iff.1 hl).1
      have hy:=run_yield (P:=P) (args:=encs x) hl (by rw [hrec];exact hps x)
      rw [hrec] at hy
      refine ⟨fn,_,assign,body,hy,roundIn_of_wpIn hfn (hassign _ pre x W _ hi ω ?_)⟩
      clear hy
      intro a' Wa hka hia hax
      have hla:=(hka.2 _ ω hlt).trans hl
      have hkk:=(hka.2 _ ω (ω:w.heap.size<W.heap.size)).trans hk
      have hlta:w.heap.size+1<Wa.heap.size:=Nat.lt_of_lt_of_le hlt hka.1
      refine ⟨_,run_beginRound hla (by rw [hrec]),?_⟩
      have hl2:(Wa.putObj (w.heap.size+1) (.loop { rec .ready none with state:=.busy })).heap[w.heap.size+1]? = some (.loop { rec .ready none with state:=.busy }):=World.putObj_heap_same hlta
      have hk2:(Wa.putObj (w.heap.size+1) (.loop { rec .ready none with state:=.busy })).heap[w.heap.size]? = some (.deferred (some [])):=(World.putObj_heap_other ω).trans hkk
      have hup:∀ (X:World) (o:Obj),KeepUp W1.heap.size X (X.putObj (w.heap.size+1) o):=fun X o=>⟨by rw [World.putObj_size];exact Nat.le_refl _,fun k h1 h2=>World.putObj_heap_other ω⟩
      refine wpIn_mono (hbody _ pre x a' _ (hI.putObj hia ω _) (hAx _ _ _ _ _ _ hax hla) (by rw [World.putObj_size];omega) hlen hsp) ?_
      have fin:∀ (jump:Option Code) (W3:World),KeepUp w.heap.size (Wa.putObj (w.heap.size+1) (.loop { rec .ready none with state:=.busy })) W3 →
          (Instr.endRound (w.heap.size+1) jump).run P W3=.ok (.bool jump.isNone) (W3.putObj (w.heap.size+1) (.loop (rec (if jump.isNone then .ready else .done) jump))) ∧
          (W3.putObj (w.heap.size+1) (.loop (rec (if jump.isNone then .ready else .done) jump))).heap[w.heap.size+1]? = some (.loop (rec (if jump.isNone then .ready else .done) jump)) ∧
          (W3.putObj (w.heap.size+1) (.loop (rec (if jump.isNone then .ready else .done) jump))).heap[w.heap.size]? = some (.deferred (some [])):=fun jump W3 hk3=>by
        have hl3:=(hk3.2 _ ω (by rw [World.putObj_size];exact hlta)).trans hl2
        have hk4:=(hk3.2 _ (Nat.le_refl _) (by rw [World.putObj_size];omega)).trans hk2
        have:=run_endRound (P:=P) jump hl3
        rw [hrec] at this ⊢
        exact ⟨this,World.putObj_heap_same (Array.getElem?_eq_some_iff.1 hl3).1,(World.putObj_heap_other ω).trans hk4⟩
      rintro e a3 W3 hp
      cases e with
      | normal=>
        obtain ⟨hk3,hi3⟩:=hp
        obtain ⟨hr,hl4,hk4⟩:=fin none W3 hk3
        exact ⟨_,_,hr,.inl ⟨rfl,⟨hI.putObj hi3 ω _,hl4,hk4⟩,(((hka.mono ω).trans (hup _ _)).trans (hk3.mono ω)).trans (hup _ _)⟩⟩
      | ret=>
        obtain ⟨hk3,hi3⟩:=hp
        obtain ⟨hr,hl4,hk4⟩:=fin (some .ret) W3 hk3
        exact ⟨_,_,hr,.inr ⟨rfl,.ret,(hIx _).putObj hi3 ω _,hl4,hk4⟩⟩
      | exit id=>
        obtain ⟨hk3,hi3⟩:=hp
        obtain ⟨hr,hl4,hk4⟩:=fin (some (.exit id)) W3 hk3
        exact ⟨_,_,hr,.inr ⟨rfl,.exit id,(hIx _).putObj hi3 ω _,hl4,hk4⟩⟩
      | goto t=>
        obtain ⟨hk3,hi3⟩:=hp
        obtain ⟨hr,hl4,hk4⟩:=fin (some (.goto t)) W3 hk3
        exact ⟨_,_,hr,.inr ⟨rfl,.goto t,(hIx _).putObj hi3 ω _,hl4,hk4⟩⟩
      | panic ch=>exact hp.elim
      | outgrown=>exact hp.elim
    · -- behind the iterator
      rintro e W2 ⟨⟨v,rfl⟩,(⟨xs,hS,hi,hl,hk⟩ | ⟨pre,hSp,c,hi,hl,hk⟩)⟩
      · exact ⟨none,_,by have:=run_endLoop (P:=P) hl (by rw [hrec];simp);rw [hrec] at this;exact this,hdone _ xs _ (Nat.le_refl _) hS (hI.putObj hi ω _) ((World.putObj_heap_other ω).trans hk)⟩
      · exact ⟨some c,_,by have:=run_endLoop (P:=P) hl (by rw [hrec];simp);rw [hrec] at this;exact this,hstop _ c pre _ (Nat.le_refl _) hSp ((hIx c).putObj hi ω _) ((World.putObj_heap_other ω).trans hk)⟩
end
section
attribute [local go_sem] Oper.semAt_some
theorem SN {F:Fence} (hd:F.depth=none) (k:Nat):F.room k:=fun d h=>by rw [hd] at h;cases h
theorem Pa {F:Fence} (hd:F.depth=none) {m m':Nat} {P:Program} {l:Nat} {f:FuncId} {tmps:Array Value} {assign body:Code} {w:World} {R:Ending→World→Prop}
    (h:RoundIn F m P l f tmps assign body w R):RoundIn F m' P l f tmps assign body w R:=⟨h.1,fun c cs _=>h.2 c cs (SN hd _)⟩
theorem GE {F:Fence} (hd:F.depth=none) {m:Nat} (m':Nat) {P:Program} {l:Nat} {args:Array Value} {W:World} {R:Ending→World→Prop} (h:YieldAt F m P l args W R):YieldAt F m' P l args W R:=by
  obtain ⟨fn,tmps,assign,body,hy,hR⟩:=h
  exact ⟨fn,tmps,assign,body,hy,Pa hd hR⟩
structure PartT where
  k:Int
  n:Int
  a:Int
  s:Int
def Eu (p:PartT):List Value:=[ν p.k,ν p.n,ν p.a,ν p.s]
def Mf (p:PartT):Value:=.agg (Eu p).toArray
def Oh (F:Fence) (l B N:Nat) (Sp:List PartT→Prop) (J Jx:List PartT→World→Prop):Prop:=
  ∀ m pre x W,J pre W→pre.length<N→Sp (pre++[x])→YieldAt F m prog l #[Mf x] W fun e W'=>
    (e=.returned (.bool true)∧J (pre++[x]) W'∧KeepUp B W W')∨(e=.returned (.bool false)∧Jx (pre++[x]) W')
def KeepBut (B A:Nat) (W W':World):Prop:=W.heap.size≤W'.heap.size∧∀ k,B≤k→k<W.heap.size→k≠A→W'.heap[k]? = W.heap[k]?
theorem KeepBut.trans {B A:Nat} {W W1 W2:World} (a:KeepBut B A W W1) (b:KeepBut B A W1 W2):KeepBut B A W W2:=
  ⟨Nat.le_trans a.1 b.1,fun k h1 h2 h3=>(b.2 k h1 (Nat.lt_of_lt_of_le h2 a.1) h3).trans (a.2 k h1 h2 h3)⟩
theorem KeepBut.refl (B A:Nat) (W:World):KeepBut B A W W:=⟨Nat.le_refl _,fun _ _ _ _=>rfl⟩
theorem KeepBut.blk {B A g:Nat} {W W':World} {e:TypeId} {L:List Value} (a:KeepBut B A W W') (hg:B≤g) (hne:g≠A) (h:Blk W g e L):Blk W' g e L:=(a.2 g hg h.lt hne).trans h
theorem Rl (F:Fence) (hd:F.depth=none) (hF:F.fn 106) (hro:F.round=none) (l B N A Y:Nat) (Sp:List PartT→Prop) (J Jx:List PartT→World→Prop) (hJ:StabC B J) (hY:Oh F l B N Sp J Jx) (hA:B≤A) (hB:B≤Y) (hne:Y≠A)
    (n:Nat) (pre:List PartT) (kd nm T sz:Int) (W:World) (hAc:Blk W A 3 [ν T]) (hYc:Blk W Y 168 [.func (.yield l) #[] #[]]) (h0:J pre W) (hlen:pre.length<N) (hsp:Sp (pre++[⟨kd,nm,T,sz⟩]))
    (hT:0≤T) (hT2:T≤1000000000) (hs:0≤sz) (hs2:sz≤1000000000) :
    CallsIn F n prog 106 #[ν kd,ν nm,ν sz,π A,π Y] W fun e W'=>
      (e=.returned (.bool true)∧J (pre++[⟨kd,nm,T,sz⟩]) W'∧Blk W' A 3 [ν (T+sz)]∧KeepBut B A W W')∨(e=.returned (.bool false)∧Jx (pre++[⟨kd,nm,T,sz⟩]) W'):=by
  have hdd:∀ k:Nat,(F.depth.isSome=true→1≤k):=fun k h=>by rw [hd] at h;cases h
  have hAlt:=hAc.lt
  have hs0:(W.setCell ⟨A,0,none⟩ (ν (T+sz))).heap.size=W.heap.size:=by simp [World.setCell]
  have b12:Below B W ((W.setCell ⟨A,0,none⟩ (ν (T+sz))).alloc (.cells #[ν kd,ν nm,ν T,ν sz] 82)):=((Below.refl B W).setCell (p:=⟨A,0,none⟩) hA _).alloc ω _
  have hJ2:J pre ((W.setCell ⟨A,0,none⟩ (ν (T+sz))).alloc (.cells #[ν kd,ν nm,ν T,ν sz] 82)):=hJ _ _ _ h0 b12
  have hA2:Blk ((W.setCell ⟨A,0,none⟩ (ν (T+sz))).alloc (.cells #[ν kd,ν nm,ν T,ν sz] 82)) A 3 [ν (T+sz)]:=(hAc.set 0 (ν (T+sz))).mono ((Below.refl _ _).alloc (Nat.le_refl _) _)
  have hY2:Blk ((W.setCell ⟨A,0,none⟩ (ν (T+sz))).alloc (.cells #[ν kd,ν nm,ν T,ν sz] 82)) Y 168 [.func (.yield l) #[] #[]]:=(hYc.setOtherS hne 0 (ν (T+sz))).mono ((Below.refl _ _).alloc (Nat.le_refl _) _)
  have hP2:Blk ((W.setCell ⟨A,0,none⟩ (ν (T+sz))).alloc (.cells #[ν kd,ν nm,ν T,ν sz] 82)) W.heap.size 82 (Eu ⟨kd,nm,T,sz⟩):=by
    have q:=heap_alloc_new (W.setCell ⟨A,0,none⟩ (ν (T+sz))) (.cells #[ν kd,ν nm,ν T,ν sz] 82)
    rw [hs0] at q;exact q
  have hK2:KeepBut B A W ((W.setCell ⟨A,0,none⟩ (ν (T+sz))).alloc (.cells #[ν kd,ν nm,ν T,ν sz] 82)):=⟨by simp [World.setCell],fun k _ h2 h3=>(Below.heap_alloc _ _ _ (by rw [hs0];exact h2)).trans (Below.heap_setCell _ _ _ _ h3)⟩
  have a0:W.cell? ⟨A,0,none⟩=some (ν T):=hAc.cell (i:=0) (by simp)
  have f0:W.frozen? ⟨A,0,none⟩=false:=hAc.frozen 0
  have y2:((W.setCell ⟨A,0,none⟩ (ν (T+sz))).alloc (.cells #[ν kd,ν nm,ν T,ν sz] 82)).cell? ⟨Y,0,none⟩=some (.func (.yield l) #[] #[]):=hY2.cell (i:=0) (by simp)
  have p0:((W.setCell ⟨A,0,none⟩ (ν (T+sz))).alloc (.cells #[ν kd,ν nm,ν T,ν sz] 82)).cell? ⟨W.heap.size,0,none⟩=some (ν kd):=hP2.cell (i:=0) (by simp [Eu])
  have p1:((W.setCell ⟨A,0,none⟩ (ν (T+sz))).alloc (.cells #[ν kd,ν nm,ν T,ν sz] 82)).cell? ⟨W.heap.size,1,none⟩=some (ν nm):=hP2.cell (i:=1) (by simp [Eu])
  have p2:((W.setCell ⟨A,0,none⟩ (ν (T+sz))).alloc (.cells #[ν kd,ν nm,ν T,ν sz] 82)).cell? ⟨W.heap.size,2,none⟩=some (ν T):=hP2.cell (i:=2) (by simp [Eu])
  have p3:((W.setCell ⟨A,0,none⟩ (ν (T+sz))).alloc (.cells #[ν kd,ν nm,ν T,ν sz] 82)).cell? ⟨W.heap.size,3,none⟩=some (ν sz):=hP2.cell (i:=3) (by simp [Eu])
  have es:IntKind.i64.wrap (T+sz)=T+sz:=IntWalk.i64_in _ ω
  obtain ⟨fn,tmps,assign,body,hy,hR⟩:=hY (n-1) pre ⟨kd,nm,T,sz⟩ _ hJ2 hlen hsp
  have hy:(Instr.yield l #[.agg #[ν kd,ν nm,ν T,ν sz]]).run prog ((W.setCell ⟨A,0,none⟩ (ν (T+sz))).alloc (.cells #[ν kd,ν nm,ν T,ν sz] 82))=.ok (.round l fn tmps assign body) ((W.setCell ⟨A,0,none⟩ (ν (T+sz))).alloc (.cells #[ν kd,ν nm,ν T,ν sz] 82)):=hy
  have HA2:=hid hA2;have HK2:=hid hK2
  clear hJ2 hA2 hY2 hP2 hK2 h0 hAc hYc hY b12 hs0
  refine callsIn_of_wp func106 rfl hF ?_ hro
  simp only [ntmps106,List.size_toArray,List.length_cons,List.length_nil,Nat.reduceAdd,Nat.reduceSub,Array.replicate_succ,Array.replicate_zero,List.push_toArray,List.append_toArray,List.nil_append,List.cons_append]
  gi_wp2
  refine hR.mono ?_
  rintro e W3 (⟨rfl,hJ3,hk3⟩ | ⟨rfl,hJx3⟩)
  · gi_wp2
    go_ret
    exact .inl ⟨rfl,hJ3,hk3.blk hA HA2.out,HK2.out.trans ⟨hk3.1,fun k h1 h2 _=>hk3.2 k h1 h2⟩⟩
  · gi_wp2
    go_ret
    exact .inr ⟨rfl,hJx3⟩
end
section
attribute [local go_sem] Oper.semAt_some
def SeqK {α:Type} (F:Fence) (n:Nat) (P:Program) (g:Nat) (lb:Array Value) (encs:α→Array Value) (S Sp:List α→Prop) (N:Nat) (w0:World) (Cs:World→Prop):Prop:=
  ∀ (l:Nat) (J Jx:List α→World→Prop) (W:World),Below w0.heap.size w0 W→StabC W.heap.size J→StabC W.heap.size Jx→(∀ pre W1,J pre W1→Cs W1) →
    (∀ pre x W1,J pre W1→pre.length<N→Sp (pre++[x])→YieldAt F (n-1) P l (encs x) W1 fun e W'=>
      (e=.returned (.bool true)∧J (pre++[x]) W'∧KeepUp W.heap.size W1 W')∨(e=.returned (.bool false)∧Jx (pre++[x]) W')) →
    J [] W →
    CallsIn F n P g (#[.func (.yield l) #[] #[]]++lb) W fun e W'=>(∃ v,e=.returned v)∧((∃ xs,S xs∧J xs W')∨(∃ pre,Sp pre∧Jx pre W'))
theorem Kl {F:Fence} {n:Nat} {P:Program} {α:Type} {g:Operand} {ps:Array Tmp} {assign body:Code} {Q:Exit→Act→World→Prop} {a:Act} {w:World}
    (hro:F.round=none) (h1:1≤n) {gf:Nat} {lb:Array Value} (hg:a.eval g=.func (.func gf) #[] lb) (hFg:F.fn gf) (eg:∀ args w,(callFunc gf args).run P w=.ok (.enter gf args) w)
    {encs:α→Array Value} {S Sp:List α→Prop} {N:Nat} {w0:World} {Cs:World→Prop} (hseq:SeqK F (n-1) P gf lb encs S Sp N w0 Cs) (hb0:Below w0.heap.size w0 w) (hps:∀ x,(encs x).size=ps.size)
    (I:List α→World→Prop) (Ix:Code→List α→World→Prop) (hI:StabC w.heap.size I) (hIx:∀ c,StabC w.heap.size (Ix c)) (h0:I [] w) (hCs:∀ pre W,I pre W→Cs W)
    (Ax:α→Act→World→Prop) (hAx:∀ x a' X l o o',Ax x a' X→X.heap[l]? = some (.loop o)→Ax x a' (X.putObj l o'))
    (hassign:∀ (l:Nat) (pre:List α) (x:α) (W:World) (K:Act→World→Prop),I pre W→w.heap.size≤W.heap.size→(∀ a' W',KeepUp w.heap.size W W'→I pre W'→Ax x a' W'→K a' W') →
      assign.wpIn (F.inRound l) (n-1-1) P (Exit.then K (fun _ _ _=>False)) { tmps:=(ps.zip (encs x)).foldl (fun t (p,v)=>t.setIfInBounds p v) a.tmps,defers:=[] } W)
    (hbody:∀ (l:Nat) (pre:List α) (x:α) (a':Act) (W:World),w.heap.size≤l→(∃ r,W.heap[l]? = some (.loop r))→I pre W→Ax x a' W→w.heap.size≤W.heap.size→pre.length<N→Sp (pre++[x])→body.wpIn (F.inRound l) (n-1-1) P (QA w.heap.size I Ix (pre++[x]) W) a' W)
    (hdone:∀ (D:Nat) (xs:List α) (W:World),w.heap.size≤D→S xs→I xs W→W.heap[D]? = some (.deferred (some []))→Q .normal { a with defers:={ target:=.collected D,args:=#[] }::a.defers } W)
    (hstop:∀ (D:Nat) (c:Code) (pre:List α) (W:World),w.heap.size≤D→Sp pre→Ix c pre W→W.heap[D]? = some (.deferred (some []))→c.wpIn F n P Q { a with defers:={ target:=.collected D,args:=#[] }::a.defers } W) :
    (Code.rangeFunc g ps assign body).wpIn F n P Q a w:=by
  refine wpIn_rangeFunc ?_
  intro fn hfn
  rw [hro]
  obtain ⟨rec,hrec⟩:∃ rec:LoopState→Option Code→Loop,rec=fun st pe=>{ state:=st,pending:=pe,fn,tmps:=a.tmps,params:=ps,assign,body,defers:=w.heap.size }:=⟨_,rfl⟩
  obtain ⟨W1,hW1⟩:∃ W1,(w.alloc (.deferred (some []))).alloc (.loop (rec .ready none))=W1:=⟨_,rfl⟩
  have hs1:W1.heap.size=w.heap.size+2:=by rw [← hW1];simp
  have hL1:W1.heap[w.heap.size+1]? = some (.loop (rec .ready none)):=by
    rw [← hW1];have:=World.alloc_heap_new (w.alloc (.deferred (some []))) (.loop (rec .ready none));rwa [World.size_alloc] at this
  have hK1:W1.heap[w.heap.size]? = some (.deferred (some [])):=by
    rw [← hW1];exact (Below.heap_alloc _ _ _ (by simp)).trans (World.alloc_heap_new w _)
  have hI1:I [] W1:=by rw [← hW1];exact hI.alloc (by simp) (hI.alloc (Nat.le_refl _) h0 _) _
  have hb1:Below w0.heap.size w0 W1:=by
    rw [← hW1];exact hb0.trans ((((Below.refl _ w).alloc (Nat.le_refl _) _).alloc (by simp) _).mono hb0.size)
  refine ⟨w.heap.size+1,[{ target:=.collected w.heap.size,args:=#[] }],W1,{ target:=.fn (.func gf) lb,args:=#[.func (.yield (w.heap.size+1)) #[] #[]] },W1,gf,
    #[.func (.yield (w.heap.size + 1)) #[] #[]] ++ lb, W1, ?_, ?_, ?_, ?_, fun _ => h1, ?_⟩
  · rw [← hW1,hrec];exact run_enterLoop_outer _ _ _ _ _
  · simp only [resolve,hg]
    simp [go_sem]
  · intro f' hf';simp [Target.leads] at hf';subst hf';exact hFg
  · simp [invoke,go_sem,eg]
  · refine (hseq (w.heap.size+1)
      (fun pre W=>I pre W∧W.heap[w.heap.size+1]? = some (.loop (rec .ready none))∧W.heap[w.heap.size]? = some (.deferred (some [])))
      (fun pre W=>∃ c,Ix c pre W∧W.heap[w.heap.size+1]? = some (.loop (rec .done (some c)))∧W.heap[w.heap.size]? = some (.deferred (some [])))
      W1 hb1
      (fun s A B hs hb=>⟨hI s A B hs.1 (hb.mono ω),(hb.block _ ω).trans hs.2.1,(hb.block _ ω).trans hs.2.2⟩)
      (fun s A B hs hb=>by
        obtain ⟨c,hc,hl,hk⟩:=hs
        exact ⟨c,hIx c s A B hc (hb.mono ω),(hb.block _ ω).trans hl,(hb.block _ ω).trans hk⟩)
      (fun pre W h=>hCs pre W h.1) ?_ ⟨hI1,hL1,hK1⟩).mono ?_
    · -- one round
      rintro pre x W ⟨hi,hl,hk⟩ hlen hsp
      have hlt:w.heap.size+1<W.heap.size:=(Array.getElem?_eq_some_iff.1 hl).1
      have hy:=run_yield (P:=P) (args:=encs x) hl (by rw [hrec];exact hps x)
      rw [hrec] at hy
      refine ⟨fn,_,assign,body,hy,roundIn_of_wpIn hfn (hassign _ pre x W _ hi ω ?_)⟩
      clear hy
      intro a' Wa hka hia hax
      have hla:=(hka.2 _ ω hlt).trans hl
      have hkk:=(hka.2 _ ω (ω:w.heap.size<W.heap.size)).trans hk
      have hlta:w.heap.size+1<Wa.heap.size:=Nat.lt_of_lt_of_le hlt hka.1
      refine ⟨_,run_beginRound hla (by rw [hrec]),?_⟩
      have hl2:(Wa.putObj (w.heap.size+1) (.loop { rec .ready none with state:=.busy })).heap[w.heap.size+1]? = some (.loop { rec .ready none with state:=.busy }):=World.putObj_heap_same hlta
      have hk2:(Wa.putObj (w.heap.size+1) (.loop { rec .ready none with state:=.busy })).heap[w.heap.size]? = some (.deferred (some [])):=(World.putObj_heap_other ω).trans hkk
      have hup:∀ (X:World) (o:Obj),KeepUp W1.heap.size X (X.putObj (w.heap.size+1) o):=fun X o=>⟨by rw [World.putObj_size];exact Nat.le_refl _,fun k h1 h2=>World.putObj_heap_other ω⟩
      refine wpIn_mono (hbody _ pre x a' _ ω ⟨_,hl2⟩ (hI.putObj hia ω _) (hAx _ _ _ _ _ _ hax hla) (by rw [World.putObj_size];omega) hlen hsp) ?_
      have fin:∀ (jump:Option Code) (W3:World),KeepUp w.heap.size (Wa.putObj (w.heap.size+1) (.loop { rec .ready none with state:=.busy })) W3 →
          (Instr.endRound (w.heap.size+1) jump).run P W3=.ok (.bool jump.isNone) (W3.putObj (w.heap.size+1) (.loop (rec (if jump.isNone then .ready else .done) jump))) ∧
          (W3.putObj (w.heap.size+1) (.loop (rec (if jump.isNone then .ready else .done) jump))).heap[w.heap.size+1]? = some (.loop (rec (if jump.isNone then .ready else .done) jump)) ∧
          (W3.putObj (w.heap.size+1) (.loop (rec (if jump.isNone then .ready else .done) jump))).heap[w.heap.size]? = some (.deferred (some [])):=fun jump W3 hk3=>by
        have hl3:=(hk3.2 _ ω (by rw [World.putObj_size];exact hlta)).trans hl2
        have hk4:=(hk3.2 _ (Nat.le_refl _) (by rw [World.putObj_size];omega)).trans hk2
        have:=run_endRound (P:=P) jump hl3
        rw [hrec] at this ⊢
        exact ⟨this,World.putObj_heap_same (Array.getElem?_eq_some_iff.1 hl3).1,(World.putObj_heap_other ω).trans hk4⟩
      rintro e a3 W3 hp
      cases e with
      | normal=>
        obtain ⟨hk3,hi3⟩:=hp
        obtain ⟨hr,hl4,hk4⟩:=fin none W3 hk3
        exact ⟨_,_,hr,.inl ⟨rfl,⟨hI.putObj hi3 ω _,hl4,hk4⟩,(((hka.mono ω).trans (hup _ _)).trans (hk3.mono ω)).trans (hup _ _)⟩⟩
      | ret=>
        obtain ⟨hk3,hi3⟩:=hp
        obtain ⟨hr,hl4,hk4⟩:=fin (some .ret) W3 hk3
        exact ⟨_,_,hr,.inr ⟨rfl,.ret,(hIx _).putObj hi3 ω _,hl4,hk4⟩⟩
      | exit id=>
        obtain ⟨hk3,hi3⟩:=hp
        obtain ⟨hr,hl4,hk4⟩:=fin (some (.exit id)) W3 hk3
        exact ⟨_,_,hr,.inr ⟨rfl,.exit id,(hIx _).putObj hi3 ω _,hl4,hk4⟩⟩
      | goto t=>
        obtain ⟨hk3,hi3⟩:=hp
        obtain ⟨hr,hl4,hk4⟩:=fin (some (.goto t)) W3 hk3
        exact ⟨_,_,hr,.inr ⟨rfl,.goto t,(hIx _).putObj hi3 ω _,hl4,hk4⟩⟩
      | panic ch=>exact hp.elim
      | outgrown=>exact hp.elim
    · -- behind the iterator
      rintro e W2 ⟨⟨v,rfl⟩,(⟨xs,hS,hi,hl,hk⟩ | ⟨pre,hSp,c,hi,hl,hk⟩)⟩
      · exact ⟨none,_,by have:=run_endLoop (P:=P) hl (by rw [hrec];simp);rw [hrec] at this;exact this,hdone _ xs _ (Nat.le_refl _) hS (hI.putObj hi ω _) ((World.putObj_heap_other ω).trans hk)⟩
      · exact ⟨some c,_,by have:=run_endLoop (P:=P) hl (by rw [hrec];simp);rw [hrec] at this;exact this,hstop _ c pre _ (Nat.le_refl _) hSp ((hIx c).putObj hi ω _) ((World.putObj_heap_other ω).trans hk)⟩
theorem Ip {a:Array Value} {p:Nat} (h:p<a.size) (v u:Value):(a.setIfInBounds p v).getD p u=v:=by simp [Array.getD,h]
theorem Jz {F:Fence} {n:Nat} {P:Program} {α:Type} {g:Operand} {ps:Array Tmp} {assign body:Code} {Q:Exit→Act→World→Prop} {a:Act} {w:World}
    {l₀:Nat} {r₀:Loop} (hro:F.round=some l₀) (hl₀:w.heap[l₀]? = some (.loop r₀)) (h1:1≤n) {gf:Nat} {lb:Array Value} (hg:a.eval g=.func (.func gf) #[] lb) (hFg:F.fn gf) (eg:∀ args w,(callFunc gf args).run P w=.ok (.enter gf args) w)
    {encs:α→Array Value} {S Sp:List α→Prop} {N:Nat} {w0:World} {Cs:World→Prop} (hseq:SeqK F (n-1) P gf lb encs S Sp N w0 Cs) (hb0:Below w0.heap.size w0 w) (hps:∀ x,(encs x).size=ps.size)
    (I:List α→World→Prop) (Ix:Code→List α→World→Prop) (hI:StabC w.heap.size I) (hIx:∀ c,StabC w.heap.size (Ix c)) (h0:I [] w) (hCs:∀ pre W,I pre W→Cs W)
    (Ax:α→Act→World→Prop) (hAx:∀ x a' X l o o',Ax x a' X→X.heap[l]? = some (.loop o)→Ax x a' (X.putObj l o'))
    (hassign:∀ (l:Nat) (pre:List α) (x:α) (W:World) (K:Act→World→Prop),I pre W→w.heap.size≤W.heap.size→(∀ a' W',KeepUp w.heap.size W W'→I pre W'→Ax x a' W'→K a' W') →
      assign.wpIn (F.inRound l) (n-1-1) P (Exit.then K (fun _ _ _=>False)) { tmps:=(ps.zip (encs x)).foldl (fun t (p,v)=>t.setIfInBounds p v) a.tmps,defers:=[] } W)
    (hbody:∀ (l:Nat) (pre:List α) (x:α) (a':Act) (W:World),w.heap.size≤l→(∃ r,W.heap[l]? = some (.loop r))→I pre W→Ax x a' W→w.heap.size≤W.heap.size→pre.length<N→Sp (pre++[x])→body.wpIn (F.inRound l) (n-1-1) P (QA w.heap.size I Ix (pre++[x]) W) a' W)
    (hdone:∀ (xs:List α) (W:World),S xs→I xs W→Q .normal a W)
    (hstop:∀ (c:Code) (pre:List α) (W:World),Sp pre→Ix c pre W→c.wpIn F n P Q a W) :
    (Code.rangeFunc g ps assign body).wpIn F n P Q a w:=by
  refine wpIn_rangeFunc ?_
  intro fn hfn
  rw [hro]
  obtain ⟨rec,hrec⟩:∃ rec:LoopState→Option Code→Loop,rec=fun st pe=>{ state:=st,pending:=pe,fn,tmps:=a.tmps,params:=ps,assign,body,defers:=r₀.defers }:=⟨_,rfl⟩
  obtain ⟨W1,hW1⟩:∃ W1,w.alloc (.loop (rec .ready none))=W1:=⟨_,rfl⟩
  have hs1:W1.heap.size=w.heap.size+1:=by rw [← hW1];simp
  have hL1:W1.heap[w.heap.size]? = some (.loop (rec .ready none)):=by rw [← hW1];exact World.alloc_heap_new w _
  have hI1:I [] W1:=by rw [← hW1];exact hI.alloc (Nat.le_refl _) h0 _
  have hb1:Below w0.heap.size w0 W1:=by
    rw [← hW1];exact hb0.trans (((Below.refl _ w).alloc (Nat.le_refl _) _).mono hb0.size)
  refine ⟨w.heap.size,[],W1,{ target:=.fn (.func gf) lb,args:=#[.func (.yield w.heap.size) #[] #[]] },W1,gf,
    #[.func (.yield w.heap.size) #[] #[]] ++ lb, W1, ?_, ?_, ?_, ?_, fun _ => h1, ?_⟩
  · rw [← hW1,hrec];exact run_enterLoop_inner hl₀ _ _ _ _ _
  · simp only [resolve,hg]
    simp [go_sem]
  · intro f' hf';simp [Target.leads] at hf';subst hf';exact hFg
  · simp [invoke,go_sem,eg]
  · refine (hseq w.heap.size
      (fun pre W=>I pre W∧W.heap[w.heap.size]? = some (.loop (rec .ready none)))
      (fun pre W=>∃ c,Ix c pre W∧W.heap[w.heap.size]? = some (.loop (rec .done (some c))))
      W1 hb1
      (fun s A B hs hb=>⟨hI s A B hs.1 (hb.mono ω),(hb.block _ ω).trans hs.2⟩)
      (fun s A B hs hb=>by
        obtain ⟨c,hc,hl⟩:=hs
        exact ⟨c,hIx c s A B hc (hb.mono ω),(hb.block _ ω).trans hl⟩)
      (fun pre W h=>hCs pre W h.1) ?_ ⟨hI1,hL1⟩).mono ?_
    · -- one round
      rintro pre x W ⟨hi,hl⟩ hlen hsp
      have hlt:w.heap.size<W.heap.size:=(Array.getElem?_eq_some_iff.1 hl).1
      have hy:=run_yield (P:=P) (args:=encs x) hl (by rw [hrec];exact hps x)
      rw [hrec] at hy
      refine ⟨fn,_,assign,body,hy,roundIn_of_wpIn hfn (hassign _ pre x W _ hi ω ?_)⟩
      clear hy
      intro a' Wa hka hia hax
      have hla:=(hka.2 _ (Nat.le_refl _) hlt).trans hl
      have hlta:w.heap.size<Wa.heap.size:=Nat.lt_of_lt_of_le hlt hka.1
      refine ⟨_,run_beginRound hla (by rw [hrec]),?_⟩
      have hl2:(Wa.putObj w.heap.size (.loop { rec .ready none with state:=.busy })).heap[w.heap.size]? = some (.loop { rec .ready none with state:=.busy }):=World.putObj_heap_same hlta
      have hup:∀ (X:World) (o:Obj),KeepUp W1.heap.size X (X.putObj w.heap.size o):=fun X o=>⟨by rw [World.putObj_size];exact Nat.le_refl _,fun k h1 h2=>World.putObj_heap_other ω⟩
      refine wpIn_mono (hbody _ pre x a' _ (Nat.le_refl _) ⟨_,hl2⟩ (hI.putObj hia (Nat.le_refl _) _) (hAx _ _ _ _ _ _ hax hla) (by rw [World.putObj_size];omega) hlen hsp) ?_
      have fin:∀ (jump:Option Code) (W3:World),KeepUp w.heap.size (Wa.putObj w.heap.size (.loop { rec .ready none with state:=.busy })) W3 →
          (Instr.endRound w.heap.size jump).run P W3=.ok (.bool jump.isNone) (W3.putObj w.heap.size (.loop (rec (if jump.isNone then .ready else .done) jump))) ∧
          (W3.putObj w.heap.size (.loop (rec (if jump.isNone then .ready else .done) jump))).heap[w.heap.size]? = some (.loop (rec (if jump.isNone then .ready else .done) jump)):=fun jump W3 hk3=>by
        have hl3:=(hk3.2 _ (Nat.le_refl _) (by rw [World.putObj_size];exact hlta)).trans hl2
        have:=run_endRound (P:=P) jump hl3
        rw [hrec] at this ⊢
        exact ⟨this,World.putObj_heap_same (Array.getElem?_eq_some_iff.1 hl3).1⟩
      rintro e a3 W3 hp
      cases e with
      | normal=>
        obtain ⟨hk3,hi3⟩:=hp
        obtain ⟨hr,hl4⟩:=fin none W3 hk3
        exact ⟨_,_,hr,.inl ⟨rfl,⟨hI.putObj hi3 (Nat.le_refl _) _,hl4⟩,(((hka.mono ω).trans (hup _ _)).trans (hk3.mono ω)).trans (hup _ _)⟩⟩
      | ret=>
        obtain ⟨hk3,hi3⟩:=hp
        obtain ⟨hr,hl4⟩:=fin (some .ret) W3 hk3
        exact ⟨_,_,hr,.inr ⟨rfl,.ret,(hIx _).putObj hi3 (Nat.le_refl _) _,hl4⟩⟩
      | exit id=>
        obtain ⟨hk3,hi3⟩:=hp
        obtain ⟨hr,hl4⟩:=fin (some (.exit id)) W3 hk3
        exact ⟨_,_,hr,.inr ⟨rfl,.exit id,(hIx _).putObj hi3 (Nat.le_refl _) _,hl4⟩⟩
      | goto t=>
        obtain ⟨hk3,hi3⟩:=hp
        obtain ⟨hr,hl4⟩:=fin (some (.goto t)) W3 hk3
        exact ⟨_,_,hr,.inr ⟨rfl,.goto t,(hIx _).putObj hi3 (Nat.le_refl _) _,hl4⟩⟩
      | panic ch=>exact hp.elim
      | outgrown=>exact hp.elim
    · -- behind the iterator
      rintro e W2 ⟨⟨v,rfl⟩,(⟨xs,hS,hi,hl⟩ | ⟨pre,hSp,c,hi,hl⟩)⟩
      · exact ⟨none,_,by have:=run_endLoop (P:=P) hl (by rw [hrec];simp);rw [hrec] at this;exact this,hdone xs _ hS (hI.putObj hi (Nat.le_refl _) _)⟩
      · exact ⟨some c,_,by have:=run_endLoop (P:=P) hl (by rw [hrec];simp);rw [hrec] at this;exact this,hstop c pre _ hSp ((hIx c).putObj hi (Nat.le_refl _) _)⟩
theorem FI {F:Fence} {n:Nat} {P:Program} {α:Type} {g:Operand} {p t:Tmp} {r:Nat} {ty:TypeId} {pos:String} {body:Code} {Q:Exit→Act→World→Prop} {a:Act} {w:World}
    (hro:F.round=none) (h1:1≤n) {gf:Nat} {lb:Array Value} (hg:a.eval g=.func (.func gf) #[] lb) (hFg:F.fn gf) (eg:∀ args w,(callFunc gf args).run P w=.ok (.enter gf args) w) (hp:p<a.tmps.size)
    {val:α→Value} {S Sp:List α→Prop} {N:Nat} {w0:World} {Cs:World→Prop} (hseq:SeqK F (n-1) P gf lb (fun x=>#[val x]) S Sp N w0 Cs) (hb0:Below w0.heap.size w0 w)
    (I:List α→World→Prop) (Ix:Code→List α→World→Prop) (hI:StabC w.heap.size I) (hIx:∀ c,StabC w.heap.size (Ix c)) (h0:I [] w) (hCs:∀ pre W,I pre W→Cs W)
    (hbody:∀ (l:Nat) (pre:List α) (x:α) (W:World),w.heap.size≤l→(∃ r,W.heap[l]? = some (.loop r))→I pre W→w.heap.size≤W.heap.size→pre.length<N→Sp (pre++[x])→body.wpIn (F.inRound l) (n-1-1) P (QA w.heap.size I Ix (pre++[x]) W) { tmps:=(a.tmps.setIfInBounds p (val x)).setIfInBounds t (val x),defers:=[] } W)
    (hdone:∀ (D:Nat) (xs:List α) (W:World),w.heap.size≤D→S xs→I xs W→W.heap[D]? = some (.deferred (some []))→Q .normal { a with defers:={ target:=.collected D,args:=#[] }::a.defers } W)
    (hstop:∀ (D:Nat) (c:Code) (pre:List α) (W:World),w.heap.size≤D→Sp pre→Ix c pre W→W.heap[D]? = some (.deferred (some []))→c.wpIn F n P Q { a with defers:={ target:=.collected D,args:=#[] }::a.defers } W) :
    (Code.rangeFunc g #[p] (Code.region r #[{ dst:=some t,op:=.assign (.tmp p),type:=ty,pos:=pos,after:=#[],guard:=none }] false) body).wpIn F n P Q a w:=by
  refine Kl hro h1 hg hFg eg hseq hb0 (fun _=>rfl) I Ix hI hIx h0 hCs (fun x a' _=>a'={ tmps:=(a.tmps.setIfInBounds p (val x)).setIfInBounds t (val x),defers:=[] }) (fun _ _ _ _ _ _ h _=>h) ?_ ?_ hdone hstop
  · intro l pre x W K hi hlt hK
    have hz:((#[p].zip #[val x]).foldl (fun t (q:Tmp×Value)=>t.setIfInBounds q.1 q.2) a.tmps)=a.tmps.setIfInBounds p (val x):=by simp
    have e:(a.tmps.setIfInBounds p (val x)).getD p undef=val x:=Ip hp _ _
    have q:=hK { tmps:=(a.tmps.setIfInBounds p (val x)).setIfInBounds t (val x),defers:=[] } W (KeepUp.refl _ _) hi rfl
    rw [hz]
    generalize hT:a.tmps.setIfInBounds p (val x)=T at *
    generalize val x=v at *
    gi_wp2
    exact q
  · intro l pre x a' W hl hlr hi ha hlt hlen hsp
    subst ha
    exact hbody l pre x W hl hlr hi hlt hlen hsp
theorem IK {F:Fence} {n:Nat} {P:Program} {α:Type} {g:Operand} {p t:Tmp} {r:Nat} {ty:TypeId} {pos:String} {body:Code} {Q:Exit→Act→World→Prop} {a:Act} {w:World}
    {l₀:Nat} {r₀:Loop} (hro:F.round=some l₀) (hl₀:w.heap[l₀]? = some (.loop r₀)) (h1:1≤n) {gf:Nat} {lb:Array Value} (hg:a.eval g=.func (.func gf) #[] lb) (hFg:F.fn gf) (eg:∀ args w,(callFunc gf args).run P w=.ok (.enter gf args) w) (hp:p<a.tmps.size)
    {val:α→Value} {S Sp:List α→Prop} {N:Nat} {w0:World} {Cs:World→Prop} (hseq:SeqK F (n-1) P gf lb (fun x=>#[val x]) S Sp N w0 Cs) (hb0:Below w0.heap.size w0 w)
    (I:List α→World→Prop) (Ix:Code→List α→World→Prop) (hI:StabC w.heap.size I) (hIx:∀ c,StabC w.heap.size (Ix c)) (h0:I [] w) (hCs:∀ pre W,I pre W→Cs W)
    (hbody:∀ (l:Nat) (pre:List α) (x:α) (W:World),w.heap.size≤l→(∃ r,W.heap[l]? = some (.loop r))→I pre W→w.heap.size≤W.heap.size→pre.length<N→Sp (pre++[x])→body.wpIn (F.inRound l) (n-1-1) P (QA w.heap.size I Ix (pre++[x]) W) { tmps:=(a.tmps.setIfInBounds p (val x)).setIfInBounds t (val x),defers:=[] } W)
    (hdone:∀ (xs:List α) (W:World),S xs→I xs W→Q .normal a W)
    (hstop:∀ (c:Code) (pre:List α) (W:World),Sp pre→Ix c pre W→c.wpIn F n P Q a W) :
    (Code.rangeFunc g #[p] (Code.region r #[{ dst:=some t,op:=.assign (.tmp p),type:=ty,pos:=pos,after:=#[],guard:=none }] false) body).wpIn F n P Q a w:=by
  refine Jz hro hl₀ h1 hg hFg eg hseq hb0 (fun _=>rfl) I Ix hI hIx h0 hCs (fun x a' _=>a'={ tmps:=(a.tmps.setIfInBounds p (val x)).setIfInBounds t (val x),defers:=[] }) (fun _ _ _ _ _ _ h _=>h) ?_ ?_ hdone hstop
  · intro l pre x W K hi hlt hK
    have hz:((#[p].zip #[val x]).foldl (fun t (q:Tmp×Value)=>t.setIfInBounds q.1 q.2) a.tmps)=a.tmps.setIfInBounds p (val x):=by simp
    have e:(a.tmps.setIfInBounds p (val x)).getD p undef=val x:=Ip hp _ _
    have q:=hK { tmps:=(a.tmps.setIfInBounds p (val x)).setIfInBounds t (val x),defers:=[] } W (KeepUp.refl _ _) hi rfl
    rw [hz]
    generalize hT:a.tmps.setIfInBounds p (val x)=T at *
    generalize val x=v at *
    gi_wp2
    exact q
  · intro l pre x a' W hl hlr hi ha hlt hlen hsp
    subst ha
    exact hbody l pre x W hl hlr hi hlt hlen hsp
end
section
attribute [local go_sem] Oper.semAt_some
def Ft (at_ m s:Nat):Nat:=if m=0 then 0 else (at_+m-1) / s+1-at_ / s
def Cm (at_ m s:Nat):List Nat:=List.range' (at_ / s) (Ft at_ m s)
theorem Tn (at_ m s:Nat):(Cm at_ m s).length=Ft at_ m s:=by simp [Cm]
theorem Rj (at_ m s:Nat) {j:Nat} (h:j<Ft at_ m s):(Cm at_ m s).take (j+1)=(Cm at_ m s).take j++[at_ / s+j]:=by
  rw [List.take_add_one]
  have:(Cm at_ m s)[j]? = some (at_ / s+j):=by simp [Cm,h]
  rw [this];rfl
theorem To (at_ m s j:Nat) (hs:s=8∨s=64) (hm:0<m):j<Ft at_ m s↔(at_ / s+j)*s<at_+m:=by
  unfold Ft
  rw [if_neg ω]
  rcases hs with rfl | rfl<;>omega
theorem Em (at_ m s k:Nat) (hs:s=8∨s=64):k∈Cm at_ m s↔inT at_ m s k=true:=by
  unfold Cm inT
  simp only [List.mem_range'_1,decide_eq_true_eq]
  unfold Ft
  by_cases h:m=0
  · rw [if_pos h];subst h;omega
  · rw [if_neg h]
    rcases hs with rfl | rfl<;>omega
theorem Afz {F:Fence} {p:Prop} (h:p):(∀ f,(none:Option FuncId)=some f→F.fn f)∧p:=⟨fun _ h=>(by cases h),h⟩
def CapT (Bn Ba Bs:Nat) (at_ m s:Nat) (w:World):Prop:=Blk w Bn 3 [ν (m:Int)]∧Blk w Ba 3 [ν (at_:Int)]∧Blk w Bs 3 [ν (s:Int)]
theorem CapT.mono {Bn Ba Bs at_ m s:Nat} {w w':World} (h:CapT Bn Ba Bs at_ m s w) (b:Below w.heap.size w w'):CapT Bn Ba Bs at_ m s w':=⟨h.1.mono b,h.2.1.mono b,h.2.2.mono b⟩
theorem CapT.cells {Bn Ba Bs at_ m s:Nat} {w:World} (h:CapT Bn Ba Bs at_ m s w):w.cell? ⟨Bn,0,none⟩=some (ν (m:Int))∧w.cell? ⟨Ba,0,none⟩=some (ν (at_:Int))∧w.cell? ⟨Bs,0,none⟩=some (ν (s:Int)):=
  ⟨h.1.cell (i:=0) (by simp),h.2.1.cell (i:=0) (by simp),h.2.2.cell (i:=0) (by simp)⟩
theorem Ht (n:Nat) (w0:World) (at_ m s:Nat) (hs:s=8∨s=64) (ha:at_≤2000000) (hm:m≤2000000) (Bn Ba Bs:Nat) (N:Nat) (hN:Ft at_ m s≤N) :
    SeqK Fence.wide n prog 96 #[π Bn,π Ba,π Bs] (fun x:Nat=>#[ν (x:Int)]) (fun xs=>xs=Cm at_ m s) (fun q=>q <+: Cm at_ m s) N w0 (CapT Bn Ba Bs at_ m s):=by
  have hd:Fence.wide.depth=none:=rfl
  intro l J Jx W hW hJ hJx hC hY0 h0
  have hdd:∀ k:Nat,(Fence.wide.depth.isSome=true→1≤k):=fun k h=>by rw [hd] at h;cases h
  have hY:∀ (k:Nat) (pre:List Nat) (x:Nat) (W1:World),J pre W1→pre.length<N→pre++[x] <+: Cm at_ m s→YieldAt Fence.wide k prog l #[ν (x:Int)] W1 fun e W'=>
    (e=.returned (.bool true)∧J (pre++[x]) W'∧KeepUp W.heap.size W1 W')∨(e=.returned (.bool false)∧Jx (pre++[x]) W'):=fun k pre x W1 a b c=>GE hd k (hY0 pre x W1 a b c)
  obtain ⟨c1,c2,c3⟩:=(hC _ _ h0).cells
  have HC:=hid hC;have HY:=hid hY;have H0:=hid h0
  clear hY hY0 h0 hW hJ hJx hC
  by_cases hm0:m=0
  · subst hm0
    have hz:Cm at_ 0 s=[]:=rfl
    rw [hz]
    clear hN hs
    refine callsIn_of_wp func96 rfl trivial ?_ rfl
    simp only [ntmps96,List.size_toArray,List.length_cons,List.length_nil,Nat.reduceAdd,Nat.reduceSub,Array.replicate_succ,Array.replicate_zero,List.push_toArray,List.append_toArray,List.nil_append,List.cons_append]
    gi_wp2
    (try simp only [Exit.inBlock,Exit.then]);refine bodyPost_ret (results_none rfl _ _ _) rfl ?_
    exact ⟨⟨_,rfl⟩,.inl ⟨_,rfl,H0.out⟩⟩
  · have hmi:¬ ((m:Int)=0):=ω
    have hiff:=fun j=>To at_ m s j hs ω
    have hsn:=fun j hj=>Rj at_ m s (j:=j) hj
    have hlen:=Tn at_ m s
    have hfull:(Cm at_ m s).take (Ft at_ m s)=Cm at_ m s:=List.take_of_length_le (by rw [hlen];exact Nat.le_refl _)
    have hq0:(at_:Int).tdiv (s:Int)=((at_ / s:Nat):Int):=rfl
    have hq1:at_ / s≤at_:=Nat.div_le_self _ _
    have hb:Ft at_ m s≤at_+m+1:=by
      unfold Ft;rw [if_neg hm0]
      rcases hs with rfl | rfl<;>omega
    have hs0:¬ ((s:Int)=0):=by rcases hs with rfl | rfl<;>simp
    have hs64:s≤64:=ω
    have e9:IntKind.i64.wrap ((at_:Int)+(m:Int))=(at_:Int)+m:=IntWalk.i64_in _ ω
    have HIF:=hid hiff;have HSN:=hid hsn;have HL:=hid hlen;have HF:=hid hfull
    clear hiff hsn hlen hfull
    generalize Cm at_ m s=TL at *
    generalize Ft at_ m s=T at *
    generalize at_ / s=q at *
    have hmb:((m:Int) == 0)=false:=by simpa using hmi
    have e0:IntKind.i64.wrap (q:Int)=(q:Int):=IntWalk.i64_in _ ω
    refine callsIn_of_wp func96 rfl trivial ?_ rfl
    simp only [ntmps96,List.size_toArray,List.length_cons,List.length_nil,Nat.reduceAdd,Nat.reduceSub,Array.replicate_succ,Array.replicate_zero,List.push_toArray,List.append_toArray,List.nil_append,List.cons_append]
    gi_wp2
    gi_loopw [5] (fun i wr=>∃ j:Nat,j≤T∧i=ν (q+j:Nat)∧J (TL.take j) wr) (fun i _=>q+T-(intOf i).toNat)
    case atStart=>exact ⟨0,ω,rfl,by simpa using H0.out⟩
    case round=>
      obtain ⟨j,hj,rfl,hJw⟩:=hrel
      obtain ⟨d1,d2,d3⟩:=(HC.out _ _ hJw).cells
      have hmul:(q+j)*s≤(q+j)*64:=Nat.mul_le_mul_left _ hs64
      have em:IntKind.i64.wrap (((q+j:Nat):Int)*(s:Int))=(((q+j)*s:Nat):Int):=by
        rw [IntWalk.i64_in _ (by rw [← Int.natCast_mul];omega)];rw [Int.natCast_mul]
      have hx:=HIF.out j
      by_cases hjc:j<T
      · have hlt:=hx.1 hjc
        obtain ⟨fn,tmps,assign,body,hy,hR⟩:=HY.out (n-1) (TL.take j) (q+j) wr hJw (by rw [List.length_take,HL.out];omega) (by rw [← HSN.out j hjc];exact List.take_prefix _ _)
        rw [← HSN.out j hjc] at hR
        have HPr:Hid (TL.take (j+1) <+: TL):=List.take_prefix _ _
        generalize hQ:(q+j)*s=Q at *
        generalize hk:q+j=k at *
        have HK:=hid hk
        have il:(Q:Int)<(at_:Int)+m:=ω
        have e3:IntKind.i64.wrap ((k:Int)+1)=(k:Int)+1:=IntWalk.i64_in _ ω
        have HR:=hid hR
        clear hR hJw hx hk
        gi_wp2
        refine HR.out.mono ?_
        rintro e W3 (⟨rfl,hJ3,hk3⟩ | ⟨rfl,hJx3⟩)
        · have HJ3:=hid hJ3
          clear hJ3 hk3
          gi_wp2
          go_roundw
          case rel=>exact ⟨j+1,ω,by have:=HK.out;go_num,HJ3.out⟩
          case measure=>have:=HK.out;simp [intOf];omega
        · have HJX:=hid hJx3
          clear hJx3
          gi_wp2
          go_end0
          exact ⟨⟨_,rfl⟩,.inr ⟨_,HPr.out,HJX.out⟩⟩
      · have hge:¬ ((q+j)*s<at_+m):=fun h=>hjc (hx.2 h)
        obtain rfl:j=T:=ω
        have HJ:=hid hJw
        generalize hQ:(q+j)*s=Q at *
        generalize hk:q+j=k at *
        have il:¬ ((Q:Int)<(at_:Int)+m):=ω
        clear hJw hx
        gi_wp2
        refine Afz ?_
        gi_wp2
        go_end0
        exact ⟨⟨_,rfl⟩,.inl ⟨_,rfl,by have:=HJ.out;rwa [HF.out] at this⟩⟩
theorem Hs (at_ m s:Nat) (w:World):Calls prog 65 #[ν (at_:Int),ν (m:Int),ν (s:Int)] w fun e w'=>
    e=.returned (.func (.func 96) #[] #[π (w.heap.size+1),π w.heap.size,π (w.heap.size+1+1)])∧CapT (w.heap.size+1) w.heap.size (w.heap.size+1+1) at_ m s w'∧Below w.heap.size w w'∧w'.heap.size=w.heap.size+3:=by
  have K1:=hid (AN (W:=w) rfl 3 [ν (at_:Int)])
  have K2:=hid (AN (W:=w.alloc (.cells #[ν (at_:Int)] 3)) (n:=w.heap.size+1) (by simp) 3 [ν (m:Int)])
  have K3:=hid (AN (W:=(w.alloc (.cells #[ν (at_:Int)] 3)).alloc (.cells #[ν (m:Int)] 3)) (n:=w.heap.size+1+1) (by simp) 3 [ν (s:Int)])
  go_enter func65,ntmps65
  go_wp2
  go_ret
  exact ⟨rfl,⟨K2.out.mono (Ck _ _),(K1.out.mono (Ck _ _)).mono (Ck _ _),K3.out⟩,Gu (Gu (Ck _ _) _) _,by simp⟩
theorem Px (k:Nat) (hk:k≤100000) (w:World):Calls prog 66 #[ν (k:Int)] w fun e w'=>
    e=.returned (.func (.func 96) #[] #[π (w.heap.size+1),π w.heap.size,π (w.heap.size+1+1)])∧CapT (w.heap.size+1) w.heap.size (w.heap.size+1+1) (64*k) 64 8 w'∧Below w.heap.size w w'∧w'.heap.size=w.heap.size+3:=by
  have e1:IntKind.i64.wrap ((k:Int)*64)=((64*k:Nat):Int):=by rw [IntWalk.i64_in _ ω];omega
  have HT:=hid (Hs (64*k) 64 8 w)
  generalize 64*k=q at *
  go_enter func66,ntmps66
  go_wp2_with (go_at_call 65;refine HT.out.mono ?_;rintro e w1 ⟨rfl,k1,b1,s1⟩;have K1:=hid k1;have B1:=hid b1;have S1:=hid s1;clear k1 b1 s1)
  go_ret
  exact ⟨rfl,K1.out,B1.out,S1.out⟩
end
end Go.Proofs.YtpnknncmacjdkaaGreatDoor
