/- Small words on slices: what is read, what the call made itself; laws on append, make and copy in these words. -/
import Derived.Test.YtpdjnefgkcmdnaaGreatDoorRows
import Derived.WalkKit
import Derived.WalkSpells
import Derived.WalkLawsBesides
import Derived.Laws.AppendOwnNone
import Derived.Laws.CopyOwn
import Derived.Deep.QuietTactic
import Derived.BigQuiet
namespace Go.Proofs.YtpdjnefgkcmdnaaGreatDoor
open Go.RowKit
set_option linter.unusedSimpArgs false
set_option linter.unusedVariables false

theorem ret_bool {a b:Bool} (h:a=b):Ending.returned (.bool a)=.returned (.bool b):=by rw [h]
theorem ret_int {k:IntKind} {a b:Int} (h:a=b):Ending.returned (.int k a)=.returned (.int k b):=by rw [h]
theorem hid {p:Prop} (h:p):Hid p:=h

/-- A slice that can be read: n elements of sz cells each, the cells cs. -/
def Row (w:World) (sz:Nat) (a:Option Addr) (n c:Nat) (cs:List Value):Prop:=
  cs.length=n*sz∧n≤c∧c≤maxLen∧(a=none→c=0) ∧
    (0<n→∃ b off,a=some ⟨b,off,none⟩∧b<w.heap.size∧∀ j u,cs[j]? = some u→w.cell? ⟨b,off+j,none⟩=some u)

/-- A slice that the call made itself, in a block from B on. -/
def Own (w:World) (B:Nat) (e:TypeId) (sz:Nat) (a:Option Addr) (n c:Nat) (cs:List Value):Prop:=
  w.ownsRow B e sz (.slice a n c) n cs

theorem Row.nil (w:World) (sz:Nat):Row w sz none 0 0 []:=⟨by simp,Nat.le_refl _,Nat.zero_le _,fun _=>rfl,fun h=>absurd h (by omega)⟩

theorem Row.mono {w w':World} {sz:Nat} {a:Option Addr} {n c:Nat} {cs:List Value} (h:Row w sz a n c cs) (hb:Below w.heap.size w w'):Row w' sz a n c cs:=by
  obtain ⟨h1,h2,h3,h4,h5⟩:=h
  refine ⟨h1,h2,h3,h4,fun hn=>?_⟩
  obtain ⟨b,off,e,hlt,hc⟩:=h5 hn
  exact ⟨b,off,e,Nat.lt_of_lt_of_le hlt hb.size,fun j u hu=>(hb.cell (by exact hlt)).trans (hc j u hu)⟩

theorem Row.drew {w:World} {sz:Nat} {a:Option Addr} {n c:Nat} {cs:List Value} (h:Row w sz a n c cs):Row w.drew sz a n c cs:=h.mono (Below.refl _ _).drew
theorem Row.alloc {w:World} {sz:Nat} {a:Option Addr} {n c:Nat} {cs:List Value} (h:Row w sz a n c cs) (o:Obj):Row (w.alloc o) sz a n c cs:=h.mono ((Below.refl _ _).alloc (Nat.le_refl _) o)

theorem Own.row {w:World} {B:Nat} {e:TypeId} {sz:Nat} {a:Option Addr} {n c:Nat} {cs:List Value} (h:Own w B e sz a n c cs):Row w sz a n c cs:=by
  obtain ⟨h0,h⟩:=h
  rcases h with ⟨hv,hn⟩ | ⟨g,cap,cur,hv,hg,hh,h1,h2,h3,h4⟩
  · cases hv
    exact ⟨h0,Nat.le_refl _,Nat.zero_le _,fun _=>rfl,fun h=>absurd h (by omega)⟩
  · cases hv
    refine ⟨h0,h1,h2,fun h=>by (cases h),fun _=>⟨g,0,rfl,(Array.getElem?_eq_some_iff.1 hh).1,fun j u hu=>?_⟩⟩
    rw [← h4,List.getElem?_take] at hu
    split at hu
    · simp at hu;simp [World.cell?,hh,hu]
    · simp at hu

theorem Own.mono {w w':World} {B:Nat} {e:TypeId} {sz:Nat} {a:Option Addr} {n c:Nat} {cs:List Value} (h:Own w B e sz a n c cs) (hb:Below w.heap.size w w'):Own w' B e sz a n c cs:=by
  obtain ⟨h0,h⟩:=h
  refine ⟨h0,?_⟩
  rcases h with h | ⟨g,cap,cur,hv,hg,hh,h1⟩
  · exact .inl h
  · exact .inr ⟨g,cap,cur,hv,hg,(hb.block g (Array.getElem?_eq_some_iff.1 hh).1).trans hh,h1⟩

theorem Own.low {w:World} {B B':Nat} {e:TypeId} {sz:Nat} {a:Option Addr} {n c:Nat} {cs:List Value} (h:Own w B e sz a n c cs) (hb:B'≤B):Own w B' e sz a n c cs:=by
  obtain ⟨h0,h⟩:=h
  refine ⟨h0,?_⟩
  rcases h with h | ⟨g,cap,cur,hv,hg,hh,h1⟩
  · exact .inl h
  · exact .inr ⟨g,cap,cur,hv,Nat.le_trans hb hg,hh,h1⟩

theorem Own.nil (w:World) (B:Nat) (e:TypeId) (sz:Nat):Own w B e sz none 0 0 []:=World.ownsRow_nil _ _ _ _
theorem Own.drew {w:World} {B:Nat} {e:TypeId} {sz:Nat} {a:Option Addr} {n c:Nat} {cs:List Value} (h:Own w B e sz a n c cs):Own w.drew B e sz a n c cs:=h.mono (Below.refl _ _).drew
theorem Own.alloc {w:World} {B:Nat} {e:TypeId} {sz:Nat} {a:Option Addr} {n c:Nat} {cs:List Value} (h:Own w B e sz a n c cs) (o:Obj):Own (w.alloc o) B e sz a n c cs:=h.mono ((Below.refl _ _).alloc (Nat.le_refl _) o)

theorem below_trans {w0 w1 w2:World} {B B1:Nat} (h:Below B w0 w1) (k:Below B1 w1 w2) (hB:B≤B1):Below B w0 w2:=h.trans (k.mono hB)

/-- The places of a slice: none, or from an address on. -/
theorem Row.at {w:World} {sz:Nat} {a:Option Addr} {n c:Nat} {cs:List Value} (h:Row w sz a n c cs) (hn:0<n) :
    ∃ b off,a=some ⟨b,off,none⟩∧b<w.heap.size∧∀ j u,cs[j]? = some u→w.cell? ⟨b,off+j,none⟩=some u:=h.2.2.2.2 hn

theorem bel_drewN {B:Nat} {a w:World} (h:Below B a w) (n:Nat):Below B a (w.drewN n):=⟨h.os,h.tape,h.output,h.size,h.block⟩

/-- What the walk is told of an element's type. -/
structure ElemT (P:Program) (t e:TypeId) (sz bytes:Nat):Prop where
  under:P.underlying t=some (.slice e)
  info:∃ (i:TypeInfo) (z:Value),P.info? e=some i∧i.zero=some z∧i.size=sz∧i.bytes=bytes∧z.cells.size=sz
  pos:0<sz

theorem elemT {P:Program} {t e:TypeId} {sz bytes:Nat} {z:Value} (h:P.underlying t=some (.slice e)) (hi:(P.info? e).map (fun i=>(i.zero,i.size,i.bytes))=some (some z,sz,bytes)) (hz:z.cells.size=sz) (hp:0<sz):ElemT P t e sz bytes:=by
  obtain ⟨i,h0,h1,h2,h3⟩:=info_parts hi
  exact ⟨h,⟨i,z,h0,h1,h2,h3,hz⟩,hp⟩

theorem ownsRow_own {w:World} {B:Nat} {e:TypeId} {sz:Nat} {v:Value} {n:Nat} {cs:List Value} (h:w.ownsRow B e sz v n cs):∃ a c,v=.slice a n c∧Own w B e sz a n c cs:=by
  have h':=h
  obtain ⟨h0,h⟩:=h
  rcases h with ⟨hv,hn⟩ | ⟨g,cap,cur,hv,hr⟩
  · subst hn;exact ⟨none,0,hv,by rw [hv] at h';exact h'⟩
  · exact ⟨_,cap,hv,by rw [hv] at h';exact h'⟩

/-- 'append(s, x...)': s nil or the call's own, x whatever can be read. -/
theorem wpl_append {P:Program} {w:World} {ops:Array Oper} {rest:List Oper} {o:Oper} {act:Act} {Q:Exit→Act→World→Prop} (hgd:o.guard=none) (s x:Operand) {t e:TypeId} {sz bytes:Nat}
    (ho:o.op=.call { callee:=.builtin .append,args:=#[s,x],argTypes:=#[t,t] }) (E:ElemT P t e sz bytes) (B:Nat)
    {a1 a2:Option Addr} {n c m c2:Nat} {cs ds:List Value} (hs:act.eval s=.slice a1 n c) (hx:act.eval x=.slice a2 m c2)
    (hown:Own w B e sz a1 n c cs) (hrow:Row w sz a2 m c2 ds) (h1:∀ u∈ds,u.oneCell'=true)
    (hbytes:(n+m)*bytes≤140737488355328) (h63:n+m≤9223372036854775807) (hbase:B≤w.heap.size)
    (h:∀ a' c' w',Own w' B e sz a' (n+m) c' (cs++ds)→w.grownBy w' (Value.slice a1 n c).ownBlock→Below B w w'→wpList P ops Q rest (act.put o.dst (.slice a' (n+m) c')) w') :
    wpList P ops Q (o::rest) act w:=by
  obtain ⟨under,⟨i,z,hi,hz,hsize,hby,hzs⟩,hsz⟩:=E
  have hlt:∀ k,(Value.slice a1 n c).ownBlock=some k→B≤k:=fun k hk=>(World.ownsRow.lt hown k hk).1
  cases a2 with
  | none=>
    obtain ⟨g1,g2,g3,g4,g5⟩:=hrow
    obtain rfl:c2=0:=g4 rfl
    obtain rfl:m=0:=by omega
    obtain rfl:ds=[]:=List.eq_nil_of_length_eq_zero (by simpa using g1)
    refine wpList_append_own_none hgd s x t ho B e i sz under hi (.slice a1 n c) n cs hs hown hx ?_
    exact h a1 c w (by simpa using hown) ⟨rfl,rfl,rfl,Nat.le_refl _,fun _ _ _=>rfl⟩ (Below.refl _ _)
  | some ad=>
    obtain ⟨g1,g2,g3,g4,g5⟩:=hrow
    refine wpList_append_own w hgd s x t ho B e i z sz bytes under hi hz hsize hby hzs hsz (.slice a1 n c) n cs hs hown ad m c2 ds hx g1 ?_ h1 (by unfold maxLen;omega) hbytes hbase ?_
    · intro j u hu
      have hm:0<m:=by
        rcases Nat.eq_zero_or_pos m with h0 | h0
        · subst h0;simp at g1;subst g1;simp at hu
        · exact h0
      obtain ⟨b,off,e1,_,hc⟩:=g5 hm
      cases e1
      have:=hc j u hu
      unfold Addr.add
      split
      · subst j;simpa using this
      · exact this
    · intro v' w' h2 h3 h4
      obtain ⟨a',c',rfl,h5⟩:=ownsRow_own h2
      exact h a' c' w' h5 h3 ((Below.refl B w).grown h3 hbase (fun k hk=>hlt k hk))

/-- A block of cells that the call made itself: its whole list of cells. -/
def Blk (w:World) (g:Nat) (e:TypeId) (L:List Value):Prop:=w.heap[g]? = some (.cells L.toArray e (0,0))

theorem Blk.lt {w:World} {g:Nat} {e:TypeId} {L:List Value} (h:Blk w g e L):g<w.heap.size:=(Array.getElem?_eq_some_iff.1 h).1
theorem Blk.cell {w:World} {g:Nat} {e:TypeId} {L:List Value} (h:Blk w g e L) {i:Nat} (hi:i<L.length):w.cell? ⟨g,i,none⟩=some L[i]:=by
  unfold World.cell?
  rw [show (⟨g,i,none⟩:Addr).block=g from rfl,show w.heap[g]? = _ from h]
  simp [hi]
theorem Blk.frozen {w:World} {g:Nat} {e:TypeId} {L:List Value} (h:Blk w g e L) (i:Nat):w.frozen? ⟨g,i,none⟩=false:=by
  unfold World.frozen?
  rw [show (⟨g,i,none⟩:Addr).block=g from rfl,show w.heap[g]? = _ from h]
  simp
theorem Blk.set {w:World} {g:Nat} {e:TypeId} {L:List Value} (h:Blk w g e L) (i:Nat) (v:Value):Blk (w.setCell ⟨g,i,none⟩ v) g e (L.set i v):=by
  have h':w.heap[g]? = some (.cells L.toArray e (0,0)):=h
  unfold Blk World.setCell
  simp only [Array.getElem?_modify,if_true,h',Option.map_some]
  simp
theorem Blk.mono {w w':World} {g:Nat} {e:TypeId} {L:List Value} (h:Blk w g e L) (hb:Below w.heap.size w w'):Blk w' g e L:=(hb.block g h.lt).trans h
theorem Blk.below {w w':World} {g B:Nat} {e:TypeId} {L:List Value} (h:Blk w g e L) (hb:Below B w w') (hg:g<B):Blk w' g e L:=(hb.block g hg).trans h
theorem Blk.drew {w:World} {g:Nat} {e:TypeId} {L:List Value} (h:Blk w g e L):Blk w.drew g e L:=h

theorem Own.of_blk {w:World} {B:Nat} {e:TypeId} {sz g n c:Nat} {L:List Value} (h:Blk w g e L) (hB:B≤g) (hn:n≤c) (hc:c≤maxLen) (hL:L.length=c*sz):Own w B e sz (some ⟨g,0,none⟩) n c (L.take (n*sz)):=by
  refine ⟨?_,.inr ⟨g,c,L.toArray,rfl,hB,h,hn,hc,by simpa using hL,rfl⟩⟩
  have:=Nat.mul_le_mul_right sz hn
  simp;omega

theorem Own.blk {w:World} {B:Nat} {e:TypeId} {sz g n c:Nat} {cs:List Value} (h:Own w B e sz (some ⟨g,0,none⟩) n c cs):∃ L,Blk w g e L∧L.length=c*sz∧B≤g∧L.take (n*sz)=cs∧n≤c∧c≤maxLen:=by
  obtain ⟨h0,h⟩:=h
  rcases h with ⟨hv,_⟩ | ⟨g',cap,cur,hv,hg,hh,h1,h2,h3,h4⟩
  · cases hv
  · cases hv
    exact ⟨cur.toList,by simpa [Blk] using hh,by simpa using h3,hg,h4,h1,h2⟩

/-- 'make([]T, n)', an element of one cell. -/
theorem wpl_make {P:Program} {w:World} {ops:Array Oper} {rest:List Oper} {o:Oper} {act:Act} {Q:Exit→Act→World→Prop} (hgd:o.guard=none) (l c:Operand) {t e:TypeId} {bytes:Nat} {z:Value}
    (ho:o.op=Op.makeSlice t l c) (under:P.underlying t=some (.slice e)) (hinfo:(P.info? e).map (fun i=>(i.zero,i.size,i.bytes))=some (some z,1,bytes)) (hz:z.cells=#[z])
    {kl kc:IntKind} {L C:Int} {n:Nat} (hl:act.eval l=.int kl L) (hc:act.eval c=.int kc C) (hL:L=(n:Int)) (hC:C=(n:Int)) (hb:bytes*n≤281474976710656) (hn:n≤9223372036854775807)
    (h:∀ w',Blk w' w.heap.size e (List.replicate n z)→Below w.heap.size w w'→wpList P ops Q rest (act.put o.dst (.slice (some ⟨w.heap.size,0,none⟩) n n)) w') :
    wpList P ops Q (o::rest) act w:=by
  obtain ⟨i,h0,h1,h2,h3⟩:=info_parts hinfo
  refine wpList_make_full w hgd l c t ho w.heap.size e i z 1 under h0 h1 h2 kl kc L C n hl hc hL hC (by rw [h3];exact hb) (by unfold maxLen;omega) (Nat.le_refl _) ?_
  intro w' hown hgrow
  refine h w' ?_ ((Below.refl _ w).grown hgrow (Nat.le_refl _) (fun k hk=>by cases hk))
  obtain ⟨K,hK,hlen,_,htake,_⟩:=Own.blk (show Own w' w.heap.size e 1 (some ⟨w.heap.size,0,none⟩) n n _ from hown)
  have:K=(madeCells z.cells (n*1)).toList:=by
    rw [← htake,List.take_of_length_le (by rw [hlen];exact Nat.le_refl _)]
  rw [this] at hK
  have e2:(madeCells z.cells (n*1)).toList=List.replicate n z:=by
    rw [hz]
    apply List.ext_getElem
    · simp [madeCells]
    · intro i h1 h2
      simp [madeCells,Nat.mod_one]
  rwa [e2] at hK

/-- a byte as the model holds it -/
def byteV (x:UInt8):Value:=.int .u8 (x.toNat:Int)
/-- bytes that can be read -/
abbrev RowB (w:World) (a:Option Addr) (c:Nat) (xs:List UInt8):Prop:=Row w 1 a xs.length c (xs.map byteV)
/-- bytes of the call's own -/
abbrev OwnB (w:World) (B:Nat) (a:Option Addr) (c:Nat) (xs:List UInt8):Prop:=Own w B 5 1 a xs.length c (xs.map byteV)
/-- the call hands back new bytes, and turns nothing -/
def RetB (w:World) (xs:List UInt8) (e:Ending) (w':World):Prop:=
  ∃ a c,e=.returned (.slice a xs.length c)∧OwnB w' w.heap.size a c xs∧Below w.heap.size w w'

/-- the byte at a place, as a number -/
def bAt (xs:List UInt8) (i:Nat):Nat:=(xs.getD i 0).toNat
theorem bAt_eq {xs:List UInt8} {i:Nat} (h:i<xs.length):bAt xs i=xs[i].toNat:=by simp [bAt,h]

theorem Row.bytes {w:World} {a:Option Addr} {c:Nat} {xs:List UInt8} (h:RowB w a c xs) (hn:0<xs.length) :
    ∃ b off,a=some ⟨b,off,none⟩∧b<w.heap.size∧∀ i,i<xs.length→w.cell? ⟨b,off+i,none⟩=some (.int .u8 (bAt xs i:Int)):=by
  obtain ⟨b,off,e,hlt,hc⟩:=h.at hn
  exact ⟨b,off,e,hlt,fun i hi=>hc i _ (by simp [hi,byteV,bAt_eq])⟩

theorem kept_trans {w w1 w2:World} (h:Below w.heap.size w w1) (k:Below w1.heap.size w1 w2):Below w.heap.size w w2:=below_trans h k h.size
/-- what a whole number of Go's int can be -/
theorem i64_bd {n:Int} (h:(Lit.int .i64 n).wf=true):-9223372036854775808≤n∧n≤9223372036854775807:=by
  simpa [Lit.wf,IntKind.min,IntKind.max,IntKind.signed,IntKind.bits] using h
theorem getElem?_splice {α:Type} (L:List α) (off:Nat) (cs:List α) (h:off+cs.length≤L.length) (i:Nat) :
    (splice L off cs)[i]? = if off≤i∧i<off+cs.length then cs[i-off]? else L[i]?:=by
  unfold splice
  have h1:(L.take off).length=off:=by simp;omega
  by_cases a:i<off
  · rw [List.getElem?_append_left (by omega),List.getElem?_take,if_pos a,if_neg (by omega)]
  · rw [List.getElem?_append_right (by omega),h1]
    by_cases b:i<off+cs.length
    · rw [List.getElem?_append_left (by omega),if_pos (by omega)]
    · rw [List.getElem?_append_right (by omega),List.getElem?_drop,if_neg (by omega)]
      congr 1;omega

theorem splice_append {α:Type} (A Z cs:List α) (off:Nat) (h:off+cs.length≤A.length):splice (A++Z) off cs=splice A off cs++Z:=by
  unfold splice
  rw [List.take_append_of_le_length (by omega),List.drop_append_of_le_length (by omega)]
  simp

end Go.Proofs.YtpdjnefgkcmdnaaGreatDoor
