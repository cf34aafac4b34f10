/- Parts of the proof. -/
import Derived.Test.YtcanemamnmmbcaaGreatDoorRows
import Derived.WalkKit
import Derived.WalkSpells
import Derived.WalkLawsBesides
import Derived.Laws.AppendOwnNone
import Derived.Laws.CopyOwn
import Derived.Deep.QuietTactic
import Derived.BigQuiet
import Derived.Laws.RangeAny
import Derived.Shelf.Abstract
import Derived.LoopTactic
import Derived.Deep.RegionHeld
import Derived.Deep.MidRow
import Derived.Laws.Rows
import Derived.Lib.Bytealg
import Derived.Laws.Externs
import Derived.Lib.IndexLaws
import Derived.Laws.BitsAllLaws
import Derived.Maps.RangeWalk
import Derived.Maps.OwnIn
namespace Go.Proofs.YtcanemamnmmbcaaGreatDoor
open Go.RowKit
set_option linter.unusedSimpArgs false
set_option linter.unusedVariables false
set_option linter.unusedSectionVars false
set_option maxRecDepth 100000
set_option maxHeartbeats 8000000
theorem ω {p : Prop} (h : p := by omega) : p := h
theorem κ {α : Sort _} {a b : α} (h : a = b := by kernel_rfl) : a = b := h
abbrev π (g : Nat) : Value := .pointer (some ⟨g, 0, none⟩)
abbrev ν (n : Int) : Value := .int .i64 n
abbrev υ0 := @Tryz.underlying0
abbrev υ3 := @Tryz.underlying3
abbrev υ4 := @Tryz.underlying4
abbrev υ5 := @Tryz.underlying5
abbrev υ9 := @Tryz.underlying9
abbrev υ20 := @Tryz.underlying20
abbrev υ22 := @Tryz.underlying22
abbrev υ23 := @Tryz.underlying23
abbrev υ30 := @Tryz.underlying30
abbrev υ32 := @Tryz.underlying32
abbrev υ33 := @Tryz.underlying33
abbrev υ35 := @Tryz.underlying35
abbrev υ37 := @Tryz.underlying37
abbrev υ44 := @Tryz.underlying44
abbrev υ47 := @Tryz.underlying47
abbrev υ48 := @Tryz.underlying48
abbrev υ49 := @Tryz.underlying49
abbrev υ57 := @Tryz.underlying57
abbrev υ62 := @Tryz.underlying62
abbrev υ63 := @Tryz.underlying63
abbrev υ68 := @Tryz.underlying68
abbrev υ69 := @Tryz.underlying69
abbrev υ74 := @Tryz.underlying74
abbrev υ76 := @Tryz.underlying76
abbrev υ88 := @Tryz.underlying88
abbrev υ93 := @Tryz.underlying93
abbrev υ95 := @Tryz.underlying95
abbrev υ99 := @Tryz.underlying99
abbrev υ103 := @Tryz.underlying103
abbrev υ108 := @Tryz.underlying108
abbrev υ114 := @Tryz.underlying114
abbrev υ139 := @Tryz.underlying139
abbrev υ140 := @Tryz.underlying140
abbrev υ145 := @Tryz.underlying145
abbrev υ146 := @Tryz.underlying146
abbrev υ148 := @Tryz.underlying148
abbrev υ149 := @Tryz.underlying149
abbrev υ151 := @Tryz.underlying151
abbrev υ153 := @Tryz.underlying153
abbrev υ154 := @Tryz.underlying154
abbrev υ161 := @Tryz.underlying161
abbrev υ162 := @Tryz.underlying162
abbrev υ166 := @Tryz.underlying166
abbrev υ169 := @Tryz.underlying169
abbrev υ171 := @Tryz.underlying171
abbrev υ172 := @Tryz.underlying172
abbrev υ174 := @Tryz.underlying174
abbrev υ176 := @Tryz.underlying176
abbrev υ182 := @Tryz.underlying182
abbrev υ186 := @Tryz.underlying186
abbrev υ188 := @Tryz.underlying188
abbrev υ200 := @Tryz.underlying200
abbrev υ201 := @Tryz.underlying201
section
theorem CA {a b:Bool} (h:a=b):Ending.returned (.bool a)=.returned (.bool b):=by rw [h]
theorem Sf {k:IntKind} {a b:Int} (h:a=b):Ending.returned (.int k a)=.returned (.int k b):=by rw [h]
theorem hid {p:Prop} (h:p):Hid p:=h
def Row (w:World) (sz:Nat) (a:Option Addr) (n c:Nat) (cs:List Value):Prop:=
  cs.length=n*sz∧n≤c∧c≤maxLen∧(a=none→c=0) ∧
    (0<n→∃ b off,a=some ⟨b,off,none⟩∧b<w.heap.size∧∀ j u,cs[j]? = some u→w.cell? ⟨b,off+j,none⟩=some u)
def Own (w:World) (B:Nat) (e:TypeId) (sz:Nat) (a:Option Addr) (n c:Nat) (cs:List Value):Prop:=
  w.ownsRow B e sz (.slice a n c) n cs
theorem Row.nil (w:World) (sz:Nat):Row w sz none 0 0 []:=⟨by simp,Nat.le_refl _,Nat.zero_le _,fun _=>rfl,fun h=>absurd h ω⟩
theorem Row.mono {w w':World} {sz:Nat} {a:Option Addr} {n c:Nat} {cs:List Value} (h:Row w sz a n c cs) (hb:Below w.heap.size w w'):Row w' sz a n c cs:=by
  obtain ⟨h1,h2,h3,h4,h5⟩:=h
  refine ⟨h1,h2,h3,h4,fun hn=>?_⟩
  obtain ⟨b,off,e,hlt,hc⟩:=h5 hn
  exact ⟨b,off,e,Nat.lt_of_lt_of_le hlt hb.size,fun j u hu=>(hb.cell (by exact hlt)).trans (hc j u hu)⟩
theorem Row.drew {w:World} {sz:Nat} {a:Option Addr} {n c:Nat} {cs:List Value} (h:Row w sz a n c cs):Row w.drew sz a n c cs:=h.mono (Below.refl _ _).drew
theorem Row.alloc {w:World} {sz:Nat} {a:Option Addr} {n c:Nat} {cs:List Value} (h:Row w sz a n c cs) (o:Obj):Row (w.alloc o) sz a n c cs:=h.mono ((Below.refl _ _).alloc (Nat.le_refl _) o)
theorem Own.row {w:World} {B:Nat} {e:TypeId} {sz:Nat} {a:Option Addr} {n c:Nat} {cs:List Value} (h:Own w B e sz a n c cs):Row w sz a n c cs:=by
  obtain ⟨h0,h⟩:=h
  rcases h with ⟨hv,hn⟩ | ⟨g,cap,cur,hv,hg,hh,h1,h2,h3,h4⟩
  · cases hv
    exact ⟨h0,Nat.le_refl _,Nat.zero_le _,fun _=>rfl,fun h=>absurd h ω⟩
  · cases hv
    refine ⟨h0,h1,h2,fun h=>by (cases h),fun _=>⟨g,0,rfl,(Array.getElem?_eq_some_iff.1 hh).1,fun j u hu=>?_⟩⟩
    rw [← h4,List.getElem?_take] at hu
    split at hu
    · simp at hu;simp [World.cell?,hh,hu]
    · simp at hu
theorem Own.mono {w w':World} {B:Nat} {e:TypeId} {sz:Nat} {a:Option Addr} {n c:Nat} {cs:List Value} (h:Own w B e sz a n c cs) (hb:Below w.heap.size w w'):Own w' B e sz a n c cs:=by
  obtain ⟨h0,h⟩:=h
  refine ⟨h0,?_⟩
  rcases h with h | ⟨g,cap,cur,hv,hg,hh,h1⟩
  · exact .inl h
  · exact .inr ⟨g,cap,cur,hv,hg,(hb.block g (Array.getElem?_eq_some_iff.1 hh).1).trans hh,h1⟩
theorem Own.low {w:World} {B B':Nat} {e:TypeId} {sz:Nat} {a:Option Addr} {n c:Nat} {cs:List Value} (h:Own w B e sz a n c cs) (hb:B'≤B):Own w B' e sz a n c cs:=by
  obtain ⟨h0,h⟩:=h
  refine ⟨h0,?_⟩
  rcases h with h | ⟨g,cap,cur,hv,hg,hh,h1⟩
  · exact .inl h
  · exact .inr ⟨g,cap,cur,hv,Nat.le_trans hb hg,hh,h1⟩
theorem Own.nil (w:World) (B:Nat) (e:TypeId) (sz:Nat):Own w B e sz none 0 0 []:=World.ownsRow_nil _ _ _ _
theorem Own.drew {w:World} {B:Nat} {e:TypeId} {sz:Nat} {a:Option Addr} {n c:Nat} {cs:List Value} (h:Own w B e sz a n c cs):Own w.drew B e sz a n c cs:=h.mono (Below.refl _ _).drew
theorem Own.alloc {w:World} {B:Nat} {e:TypeId} {sz:Nat} {a:Option Addr} {n c:Nat} {cs:List Value} (h:Own w B e sz a n c cs) (o:Obj):Own (w.alloc o) B e sz a n c cs:=h.mono ((Below.refl _ _).alloc (Nat.le_refl _) o)
theorem Mx {w0 w1 w2:World} {B B1:Nat} (h:Below B w0 w1) (k:Below B1 w1 w2) (hB:B≤B1):Below B w0 w2:=h.trans (k.mono hB)
theorem Row.at {w:World} {sz:Nat} {a:Option Addr} {n c:Nat} {cs:List Value} (h:Row w sz a n c cs) (hn:0<n) :
    ∃ b off,a=some ⟨b,off,none⟩∧b<w.heap.size∧∀ j u,cs[j]? = some u→w.cell? ⟨b,off+j,none⟩=some u:=h.2.2.2.2 hn
theorem Gf {B:Nat} {a w:World} (h:Below B a w) (n:Nat):Below B a (w.drewN n):=⟨h.os,h.tape,h.output,h.size,h.block⟩
structure ElemT (P:Program) (t e:TypeId) (sz bytes:Nat):Prop where
  under:P.underlying t=some (.slice e)
  info:∃ (i:TypeInfo) (z:Value),P.info? e=some i∧i.zero=some z∧i.size=sz∧i.bytes=bytes∧z.cells.size=sz
  pos:0<sz
theorem LA {P:Program} {t e:TypeId} {sz bytes:Nat} {z:Value} (h:P.underlying t=some (.slice e)) (hi:(P.info? e).map (fun i=>(i.zero,i.size,i.bytes))=some (some z,sz,bytes)) (hz:z.cells.size=sz) (hp:0<sz):ElemT P t e sz bytes:=by
  obtain ⟨i,h0,h1,h2,h3⟩:=info_parts hi
  exact ⟨h,⟨i,z,h0,h1,h2,h3,hz⟩,hp⟩
theorem Fe {w:World} {B:Nat} {e:TypeId} {sz:Nat} {v:Value} {n:Nat} {cs:List Value} (h:w.ownsRow B e sz v n cs):∃ a c,v=.slice a n c∧Own w B e sz a n c cs:=by
  have h':=h
  obtain ⟨h0,h⟩:=h
  rcases h with ⟨hv,hn⟩ | ⟨g,cap,cur,hv,hr⟩
  · subst hn;exact ⟨none,0,hv,by rw [hv] at h';exact h'⟩
  · exact ⟨_,cap,hv,by rw [hv] at h';exact h'⟩
theorem Lh {P:Program} {w:World} {ops:Array Oper} {rest:List Oper} {o:Oper} {act:Act} {Q:Exit→Act→World→Prop} (hgd:o.guard=none) (s x:Operand) {t e:TypeId} {sz bytes:Nat}
    (ho:o.op=.call { callee:=.builtin .append,args:=#[s,x],argTypes:=#[t,t] }) (E:ElemT P t e sz bytes) (B:Nat)
    {a1 a2:Option Addr} {n c m c2:Nat} {cs ds:List Value} (hs:act.eval s=.slice a1 n c) (hx:act.eval x=.slice a2 m c2)
    (hown:Own w B e sz a1 n c cs) (hrow:Row w sz a2 m c2 ds) (h1:∀ u∈ds,u.oneCell'=true)
    (hbytes:(n+m)*bytes≤140737488355328) (h63:n+m≤9223372036854775807) (hbase:B≤w.heap.size)
    (h:∀ a' c' w',Own w' B e sz a' (n+m) c' (cs++ds)→w.grownBy w' (Value.slice a1 n c).ownBlock→Below B w w'→wpList P ops Q rest (act.put o.dst (.slice a' (n+m) c')) w') :
    wpList P ops Q (o::rest) act w:=by
  obtain ⟨under,⟨i,z,hi,hz,hsize,hby,hzs⟩,hsz⟩:=E
  have hlt:∀ k,(Value.slice a1 n c).ownBlock=some k→B≤k:=fun k hk=>(World.ownsRow.lt hown k hk).1
  cases a2 with
  | none=>
    obtain ⟨g1,g2,g3,g4,g5⟩:=hrow
    obtain rfl:c2=0:=g4 rfl
    obtain rfl:m=0:=ω
    obtain rfl:ds=[]:=List.eq_nil_of_length_eq_zero (by simpa using g1)
    refine wpList_append_own_none hgd s x t ho B e i sz under hi (.slice a1 n c) n cs hs hown hx ?_
    exact h a1 c w (by simpa using hown) ⟨rfl,rfl,rfl,Nat.le_refl _,fun _ _ _=>rfl⟩ (Below.refl _ _)
  | some ad=>
    obtain ⟨g1,g2,g3,g4,g5⟩:=hrow
    refine wpList_append_own w hgd s x t ho B e i z sz bytes under hi hz hsize hby hzs hsz (.slice a1 n c) n cs hs hown ad m c2 ds hx g1 ?_ h1 (by unfold maxLen;omega) hbytes hbase ?_
    · intro j u hu
      have hm:0<m:=by
        rcases Nat.eq_zero_or_pos m with h0 | h0
        · subst h0;simp at g1;subst g1;simp at hu
        · exact h0
      obtain ⟨b,off,e1,_,hc⟩:=g5 hm
      cases e1
      have:=hc j u hu
      unfold Addr.add
      split
      · subst j;simpa using this
      · exact this
    · intro v' w' h2 h3 h4
      obtain ⟨a',c',rfl,h5⟩:=Fe h2
      exact h a' c' w' h5 h3 ((Below.refl B w).grown h3 hbase (fun k hk=>hlt k hk))
def Blk (w:World) (g:Nat) (e:TypeId) (L:List Value):Prop:=w.heap[g]? = some (.cells L.toArray e (0,0))
theorem Blk.lt {w:World} {g:Nat} {e:TypeId} {L:List Value} (h:Blk w g e L):g<w.heap.size:=(Array.getElem?_eq_some_iff.1 h).1
theorem Blk.cell {w:World} {g:Nat} {e:TypeId} {L:List Value} (h:Blk w g e L) {i:Nat} (hi:i<L.length):w.cell? ⟨g,i,none⟩=some L[i]:=by
  unfold World.cell?
  rw [show (⟨g,i,none⟩:Addr).block=g from rfl,show w.heap[g]? = _ from h]
  simp [hi]
theorem Blk.frozen {w:World} {g:Nat} {e:TypeId} {L:List Value} (h:Blk w g e L) (i:Nat):w.frozen? ⟨g,i,none⟩=false:=by
  unfold World.frozen?
  rw [show (⟨g,i,none⟩:Addr).block=g from rfl,show w.heap[g]? = _ from h]
  simp
theorem Blk.set {w:World} {g:Nat} {e:TypeId} {L:List Value} (h:Blk w g e L) (i:Nat) (v:Value):Blk (w.setCell ⟨g,i,none⟩ v) g e (L.set i v):=by
  have h':w.heap[g]? = some (.cells L.toArray e (0,0)):=h
  unfold Blk World.setCell
  simp only [Array.getElem?_modify,if_true,h',Option.map_some]
  simp
theorem Blk.mono {w w':World} {g:Nat} {e:TypeId} {L:List Value} (h:Blk w g e L) (hb:Below w.heap.size w w'):Blk w' g e L:=(hb.block g h.lt).trans h
theorem Blk.below {w w':World} {g B:Nat} {e:TypeId} {L:List Value} (h:Blk w g e L) (hb:Below B w w') (hg:g<B):Blk w' g e L:=(hb.block g hg).trans h
theorem Blk.drew {w:World} {g:Nat} {e:TypeId} {L:List Value} (h:Blk w g e L):Blk w.drew g e L:=h
theorem Own.of_blk {w:World} {B:Nat} {e:TypeId} {sz g n c:Nat} {L:List Value} (h:Blk w g e L) (hB:B≤g) (hn:n≤c) (hc:c≤maxLen) (hL:L.length=c*sz):Own w B e sz (some ⟨g,0,none⟩) n c (L.take (n*sz)):=by
  refine ⟨?_,.inr ⟨g,c,L.toArray,rfl,hB,h,hn,hc,by simpa using hL,rfl⟩⟩
  have:=Nat.mul_le_mul_right sz hn
  simp;omega
theorem Own.blk {w:World} {B:Nat} {e:TypeId} {sz g n c:Nat} {cs:List Value} (h:Own w B e sz (some ⟨g,0,none⟩) n c cs):∃ L,Blk w g e L∧L.length=c*sz∧B≤g∧L.take (n*sz)=cs∧n≤c∧c≤maxLen:=by
  obtain ⟨h0,h⟩:=h
  rcases h with ⟨hv,_⟩ | ⟨g',cap,cur,hv,hg,hh,h1,h2,h3,h4⟩
  · cases hv
  · cases hv
    exact ⟨cur.toList,by simpa [Blk] using hh,by simpa using h3,hg,h4,h1,h2⟩
theorem Nk {P:Program} {w:World} {ops:Array Oper} {rest:List Oper} {o:Oper} {act:Act} {Q:Exit→Act→World→Prop} (hgd:o.guard=none) (l c:Operand) {t e:TypeId} {bytes:Nat} {z:Value}
    (ho:o.op=Op.makeSlice t l c) (under:P.underlying t=some (.slice e)) (hinfo:(P.info? e).map (fun i=>(i.zero,i.size,i.bytes))=some (some z,1,bytes)) (hz:z.cells=#[z])
    {kl kc:IntKind} {L C:Int} {n:Nat} (hl:act.eval l=.int kl L) (hc:act.eval c=.int kc C) (hL:L=(n:Int)) (hC:C=(n:Int)) (hb:bytes*n≤281474976710656) (hn:n≤9223372036854775807)
    (h:∀ w',Blk w' w.heap.size e (List.replicate n z)→Below w.heap.size w w'→wpList P ops Q rest (act.put o.dst (.slice (some ⟨w.heap.size,0,none⟩) n n)) w') :
    wpList P ops Q (o::rest) act w:=by
  obtain ⟨i,h0,h1,h2,h3⟩:=info_parts hinfo
  refine wpList_make_full w hgd l c t ho w.heap.size e i z 1 under h0 h1 h2 kl kc L C n hl hc hL hC (by rw [h3];exact hb) (by unfold maxLen;omega) (Nat.le_refl _) ?_
  intro w' hown hgrow
  refine h w' ?_ ((Below.refl _ w).grown hgrow (Nat.le_refl _) (fun k hk=>by cases hk))
  obtain ⟨K,hK,hlen,_,htake,_⟩:=Own.blk (show Own w' w.heap.size e 1 (some ⟨w.heap.size,0,none⟩) n n _ from hown)
  have:K=(madeCells z.cells (n*1)).toList:=by
    rw [← htake,List.take_of_length_le (by rw [hlen];exact Nat.le_refl _)]
  rw [this] at hK
  have e2:(madeCells z.cells (n*1)).toList=List.replicate n z:=by
    rw [hz]
    apply List.ext_getElem
    · simp [madeCells]
    · intro i h1 h2
      simp [madeCells,Nat.mod_one]
  rwa [e2] at hK
def Qr (x:UInt8):Value:=.int .u8 (x.toNat:Int)
abbrev TK (w:World) (a:Option Addr) (c:Nat) (xs:List UInt8):Prop:=Row w 1 a xs.length c (xs.map Qr)
abbrev TI (w:World) (B:Nat) (a:Option Addr) (c:Nat) (xs:List UInt8):Prop:=Own w B 5 1 a xs.length c (xs.map Qr)
def Uw (w:World) (xs:List UInt8) (e:Ending) (w':World):Prop:=
  ∃ a c,e=.returned (.slice a xs.length c)∧TI w' w.heap.size a c xs∧Below w.heap.size w w'
def bAt (xs:List UInt8) (i:Nat):Nat:=(xs.getD i 0).toNat
theorem SD {xs:List UInt8} {i:Nat} (h:i<xs.length):bAt xs i=xs[i].toNat:=by simp [bAt,h]
theorem Row.bytes {w:World} {a:Option Addr} {c:Nat} {xs:List UInt8} (h:TK w a c xs) (hn:0<xs.length) :
    ∃ b off,a=some ⟨b,off,none⟩∧b<w.heap.size∧∀ i,i<xs.length→w.cell? ⟨b,off+i,none⟩=some (.int .u8 (bAt xs i:Int)):=by
  obtain ⟨b,off,e,hlt,hc⟩:=h.at hn
  exact ⟨b,off,e,hlt,fun i hi=>hc i _ (by simp [hi,Qr,SD])⟩
theorem Cd {w w1 w2:World} (h:Below w.heap.size w w1) (k:Below w1.heap.size w1 w2):Below w.heap.size w w2:=Mx h k h.size
theorem getElem?_splice {α:Type} (L:List α) (off:Nat) (cs:List α) (h:off+cs.length≤L.length) (i:Nat) :
    (splice L off cs)[i]? = if off≤i∧i<off+cs.length then cs[i-off]? else L[i]?:=by
  unfold splice
  have h1:(L.take off).length=off:=by simp;omega
  by_cases a:i<off
  · rw [List.getElem?_append_left ω,List.getElem?_take,if_pos a,if_neg ω]
  · rw [List.getElem?_append_right ω,h1]
    by_cases b:i<off+cs.length
    · rw [List.getElem?_append_left ω,if_pos ω]
    · rw [List.getElem?_append_right ω,List.getElem?_drop,if_neg ω]
      congr 1;omega
theorem Ln {α:Type} (A Z cs:List α) (off:Nat) (h:off+cs.length≤A.length):splice (A++Z) off cs=splice A off cs++Z:=by
  unfold splice
  rw [List.take_append_of_le_length ω,List.drop_append_of_le_length ω]
  simp
end
section
open Go.RowKit Go.Shelf
theorem EH (a b:ByteArray):(a.toList == b.toList)=decide (a=b):=by
  by_cases h:a=b
  · subst h;simp
  · rw [decide_eq_false h]
    exact beq_eq_false_iff_ne.2 (fun q=>h (by rw [ByteArray.toList_eq,ByteArray.toList_eq] at q;exact ByteArray.ext (Array.toList_inj.1 q)))
theorem SL {s:ByteArray} (h:¬ s=⟨#[]⟩):s.toList.isEmpty=false:=by
  rw [← decide_eq_emptyBytes];exact decide_eq_false h
theorem QH:(⟨#[]⟩:ByteArray).toList.isEmpty=true:=by
  rw [← decide_eq_emptyBytes];exact decide_eq_true rfl
theorem LD (a:UInt8):(⟨#[a]⟩:ByteArray).toList=[a]:=by rw [ByteArray.toList_eq]
theorem St (a b:UInt8):(⟨#[a,b]⟩:ByteArray).toList=[a,b]:=by rw [ByteArray.toList_eq]
def okN (c:Int):Bool:=decide (97≤c∧c≤122)||decide (48≤c∧c≤57)||decide (c=46)||decide (c=95)||decide (c=45)
theorem LH (c:Int):((97≤c∧c≤122)∧okN c=true)∨((48≤c∧c≤57)∧okN c=true)∨(c=46∧okN c=true)∨(c=95∧okN c=true)∨(c=45∧okN c=true) ∨
    ((c<48∧c≠45∧c≠46)∧okN c=false)∨((57<c∧c<97∧c≠95)∧okN c=false)∨(122<c∧okN c=false):=by
  have key:okN c=true↔((97≤c∧c≤122)∨(48≤c∧c≤57)∨c=46∨c=95∨c=45):=by
    unfold okN;simp only [Bool.or_eq_true,decide_eq_true_eq];omega
  have kf:okN c=false↔¬ ((97≤c∧c≤122)∨(48≤c∧c≤57)∨c=46∨c=95∨c=45):=by
    rw [← key];simp
  rw [key,kf];omega
def LW (s:ByteArray):Bool:=s.data.toList.all (fun b=>okN (b.toNat:Int))
def mayN (s:ByteArray):Bool:=decide (1≤s.size)&&decide (s.size≤12)&&!decide (s=⟨#[46]⟩)&&!decide (s=⟨#[46,46]⟩)&&LW s
theorem Lu (s:ByteArray) (k:Nat) (h:k<s.size):(s.data.toList.take (k+1)).all (fun b=>okN (b.toNat:Int))=((s.data.toList.take k).all (fun b=>okN (b.toNat:Int))&&okN ((s[k]'h).toNat:Int)):=by
  have e:s.data.toList.take (k+1)=s.data.toList.take k++[s[k]]:=by
    rw [List.take_succ_eq_append_getElem (by simpa using h)];rfl
  rw [e,List.all_append];simp
theorem Ke (s:ByteArray) (k:Nat) (h:k<s.size) (hk:okN ((s[k]'h).toNat:Int)=false):LW s=false:=by
  unfold LW
  rw [List.all_eq_false]
  refine ⟨s[k],?_,by rw [hk];simp⟩
  exact List.mem_of_getElem? (i:=k) (by simp [h];rfl)
theorem ND (r:Int) (w:World):Calls Tryz.prog 126 #[.int .i32 r] w fun e w'=>e=.returned (.bool (okN r))∧w=w':=by
  rcases LH r with ⟨h,hk⟩ | ⟨h,hk⟩ | ⟨h,hk⟩ | ⟨h,hk⟩ | ⟨h,hk⟩ | ⟨h,hk⟩ | ⟨h,hk⟩ | ⟨h,hk⟩
  all_goals
    rw [hk]
    clear hk
  · obtain ⟨h1,h2⟩:=h
    have d1:decide (97≤r)=true:=decide_eq_true h1
    have d2:decide (r≤122)=true:=decide_eq_true h2
    go_enter Tryz.func126,Tryz.ntmps126
    go_wp2
    go_ret
    exact ⟨rfl,rfl⟩
  · obtain ⟨h1,h2⟩:=h
    have d1:decide (97≤r)=false:=decide_eq_false ω
    have d3:decide (48≤r)=true:=decide_eq_true h1
    have d4:decide (r≤57)=true:=decide_eq_true h2
    go_enter Tryz.func126,Tryz.ntmps126
    go_wp2
    go_ret
    exact ⟨rfl,rfl⟩
  · subst h
    go_enter Tryz.func126,Tryz.ntmps126
    go_wp2
    go_ret
    exact ⟨rfl,rfl⟩
  · subst h
    go_enter Tryz.func126,Tryz.ntmps126
    go_wp2
    go_ret
    exact ⟨rfl,rfl⟩
  · subst h
    go_enter Tryz.func126,Tryz.ntmps126
    go_wp2
    go_ret
    exact ⟨rfl,rfl⟩
  · have d1:decide (97≤r)=false:=decide_eq_false ω
    have d3:decide (48≤r)=false:=decide_eq_false ω
    have e1:(r == 46)=false:=by simp;omega
    have e2:(r == 95)=false:=by simp;omega
    have e3:(r == 45)=false:=by simp;omega
    go_enter Tryz.func126,Tryz.ntmps126
    go_wp2
    go_ret
    exact ⟨rfl,rfl⟩
  · have d1:decide (97≤r)=false:=decide_eq_false ω
    have d3:decide (48≤r)=true:=decide_eq_true ω
    have d4:decide (r≤57)=false:=decide_eq_false ω
    have e1:(r == 46)=false:=by simp;omega
    have e2:(r == 95)=false:=by simp;omega
    have e3:(r == 45)=false:=by simp;omega
    go_enter Tryz.func126,Tryz.ntmps126
    go_wp2
    go_ret
    exact ⟨rfl,rfl⟩
  · have d1:decide (97≤r)=true:=decide_eq_true ω
    have d2:decide (r≤122)=false:=decide_eq_false ω
    have d3:decide (48≤r)=true:=decide_eq_true ω
    have d4:decide (r≤57)=false:=decide_eq_false ω
    have e1:(r == 46)=false:=by simp;omega
    have e2:(r == 95)=false:=by simp;omega
    have e3:(r == 45)=false:=by simp;omega
    go_enter Tryz.func126,Tryz.ntmps126
    go_wp2
    go_ret
    exact ⟨rfl,rfl⟩
theorem OG {s:ByteArray} (h:¬ s=⟨#[]⟩):1≤s.size:=by
  rcases Nat.eq_zero_or_pos s.size with h0 | h0
  · exact absurd (ByteArray.ext (Array.eq_empty_of_size_eq_zero h0)) h
  · exact h0
theorem Rc (s:ByteArray) (w:World):Calls Tryz.prog 104 #[.string s] w fun e w'=>e=.returned (.bool (mayN s))∧Below w.heap.size w w':=by
  by_cases h0:s=⟨#[]⟩
  · subst h0
    have het:=QH
    rw [show mayN ⟨#[]⟩=false from by decide +kernel]
    go_enter Tryz.func104,Tryz.ntmps104
    go_wp2
    go_ret
    exact ⟨rfl,Below.refl _ _⟩
  have h1:=OG h0
  have he:=SL h0
  by_cases h2:s=⟨#[46]⟩
  · subst h2
    rw [show mayN ⟨#[46]⟩=false from by decide +kernel]
    clear h0 h1 
    go_enter Tryz.func104,Tryz.ntmps104
    go_wp2
    go_ret
    exact ⟨rfl,Below.refl _ _⟩
  have e2:=EH s ⟨#[46]⟩
  rw [decide_eq_false h2,LD] at e2
  by_cases h3:s=⟨#[46,46]⟩
  · subst h3
    rw [show mayN ⟨#[46,46]⟩=false from by decide +kernel]
    clear h0 h1 h2
    go_enter Tryz.func104,Tryz.ntmps104
    go_wp2
    go_ret
    exact ⟨rfl,Below.refl _ _⟩
  have e3:=EH s ⟨#[46,46]⟩
  rw [decide_eq_false h3,St] at e3
  by_cases h4:s.size≤12
  · have hm:mayN s=LW s:=by unfold mayN;rw [decide_eq_true h1,decide_eq_true h4,decide_eq_false h2,decide_eq_false h3];simp
    rw [hm]
    have d4:decide (12<(s.size:Int))=false:=decide_eq_false ω
    clear hm h0 h2 h3
    go_enter Tryz.func104,Tryz.ntmps104
    go_wp2
    go_loopw [2] (fun v wr=>∃ pos:Nat,wr=w.iter s pos∧v=.bool false∧(pos≤s.size∧(s.data.toList.take pos).all (fun b=>okN (b.toNat:Int))=true)) (fun _ wr=>s.size-wr.iterPos w.heap.size)
    case atStart=>exact ⟨0,rfl,rfl,ω,by simp⟩
    case round=>
      obtain ⟨pos,rfl,rfl,hps,hall⟩:=hrel
      by_cases hp:pos<s.size
      · have hts:=Lu s pos hp
        rw [hall,Bool.true_and] at hts
        have hfa:=Ke s pos hp
        have hlo:=fun ha=>decode_ascii s pos hp ha
        have hhi:=fun ha=>decode_high s pos hp ha
        have hnx:∀ ty,(Instr.next (π w.heap.size) true ty).run Tryz.prog (w.iter s pos)=_:=fun ty=>run_next_any w s pos ty hp
        have HIN:=hid (fun w1=>ND ((Utf8.decode s pos).1:Int) w1)
        have HTS:=hid hts;have HFA:=hid hfa
        clear hts hfa
        rcases Nat.lt_or_ge (s[pos]'hp).toNat 128 with hb | hb
        · have hd:=hlo hb
          rw [hd] at hnx HIN
          clear hlo hhi hd
          generalize (s[pos]'hp).toNat=b at *
          cases hk:okN (b:Int) with
          | true=>
            rw [hk] at HIN HTS
            clear hk
            have HA:=hid hall
            clear hall
            go_wp2_with (go_at_call 126;refine (HIN.out _).mono ?_;rintro e w1 ⟨rfl,rfl⟩)
            go_roundw
            case rel=>exact ⟨pos+1,rfl,rfl,ω,HTS.out⟩
            case measure=>simp;omega
          | false=>
            rw [hk] at HIN
            have HF:=hid (HFA.out hk)
            clear hk hall
            go_wp2_with (go_at_call 126;refine (HIN.out _).mono ?_;rintro e w1 ⟨rfl,rfl⟩)
            go_ret
            exact ⟨CA HF.out.symm,by unfold World.iter;exact (Below.refl _ _).alloc (Nat.le_refl _) _⟩
        · obtain ⟨hd1,hd2⟩:=hhi hb
          have hbl:(s[pos]'hp).toNat<256:=(s[pos]'hp).toNat_lt
          have hk:okN (((s[pos]'hp).toNat:Nat):Int)=false:=by
            unfold okN;simp only [Bool.or_eq_false_iff,decide_eq_false_iff_not];omega
          have hk2:okN (((Utf8.decode s pos).1:Nat):Int)=false:=by
            unfold okN;simp only [Bool.or_eq_false_iff,decide_eq_false_iff_not];omega
          rw [hk2] at HIN
          have HF:=hid (HFA.out hk)
          clear hk hk2 hall hlo hhi hd1 hd2 hb hbl
          generalize (Utf8.decode s pos).1=r at *
          go_wp2_with (go_at_call 126;refine (HIN.out _).mono ?_;rintro e w1 ⟨rfl,rfl⟩)
          go_ret
          exact ⟨CA HF.out.symm,by unfold World.iter;exact (Below.refl _ _).alloc (Nat.le_refl _) _⟩
      · have hnx:∀ ty,(Instr.next (π w.heap.size) true ty).run Tryz.prog (w.iter s pos)=_:=fun ty=>run_next_end w s pos ty hp
        have hf:LW s=true:=by
          rw [List.take_of_length_le (by simp;omega)] at hall
          exact hall
        have HF:=hid hf
        clear hf hall
        go_wp2
        go_ret
        exact ⟨CA HF.out.symm,by unfold World.iter;exact (Below.refl _ _).alloc (Nat.le_refl _) _⟩
  · have hm:mayN s=false:=by unfold mayN;rw [decide_eq_false h4];simp
    rw [hm]
    have d4:decide (12<(s.size:Int))=true:=decide_eq_true ω
    clear hm h0 h2 h3
    go_enter Tryz.func104,Tryz.ntmps104
    go_wp2
    go_ret
    exact ⟨rfl,Below.refl _ _⟩
end
section
open Go.RowKit Go.Shelf
theorem JH (s:ByteArray) (w:World):Calls Tryz.prog 23 #[.string s] w fun e w'=>e=.returned (.bool (mayN s))∧w=w':=by
  by_cases h0:s=⟨#[]⟩
  · subst h0
    rw [show mayN ⟨#[]⟩=false from by decide +kernel]
    go_enter Tryz.func23,Tryz.ntmps23
    go_wp2
    go_ret
    exact ⟨rfl,rfl⟩
  have h1:=OG h0
  by_cases h4:s.size≤12
  · have d4:decide (12<(s.size:Int))=false:=decide_eq_false ω
    have d1:decide ((s.size:Int)<1)=false:=decide_eq_false ω
    by_cases h2:s=⟨#[46]⟩
    · subst h2
      rw [show mayN ⟨#[46]⟩=false from by decide +kernel]
      clear h0 h1 h4 d4 d1
      go_enter Tryz.func23,Tryz.ntmps23
      go_wp2
      go_ret
      exact ⟨rfl,rfl⟩
    have e2:=EH s ⟨#[46]⟩
    rw [decide_eq_false h2,LD] at e2
    by_cases h3:s=⟨#[46,46]⟩
    · subst h3
      rw [show mayN ⟨#[46,46]⟩=false from by decide +kernel]
      clear h0 h1 h2 h4 d4 d1 e2
      go_enter Tryz.func23,Tryz.ntmps23
      go_wp2
      go_ret
      exact ⟨rfl,rfl⟩
    have e3:=EH s ⟨#[46,46]⟩
    rw [decide_eq_false h3,St] at e3
    have hm:mayN s=LW s:=by unfold mayN;rw [decide_eq_true h1,decide_eq_true h4,decide_eq_false h2,decide_eq_false h3];simp
    rw [hm]
    clear hm h0 h2 h3
    go_enter Tryz.func23,Tryz.ntmps23
    go_wp2
    go_loopw [3] (fun v wr=>∃ pos:Nat,wr=w∧v=ν pos∧(pos≤s.size∧(s.data.toList.take pos).all (fun b=>okN (b.toNat:Int))=true)) (fun v _=>s.size-(intOf v).toNat)
    case atStart=>exact ⟨0,rfl,rfl,ω,by simp⟩
    case round=>
      obtain ⟨pos,rfl,rfl,hps,hall⟩:=hrel
      by_cases hp:pos<s.size
      · have hts:=Lu s pos hp
        rw [hall,Bool.true_and] at hts
        have hfa:=Ke s pos hp
        have hbl:(s[pos]'hp).toNat<256:=(s[pos]'hp).toNat_lt
        have dp:decide ((pos:Int)<(s.size:Int))=true:=decide_eq_true ω
        have HTS:=hid hts;have HFA:=hid hfa;have HA:=hid hall
        clear hts hfa hall e2 e3
        rcases LH ((s[pos]'hp).toNat:Int) with ⟨h,hk⟩ | ⟨h,hk⟩ | ⟨h,hk⟩ | ⟨h,hk⟩ | ⟨h,hk⟩ | ⟨h,hk⟩ | ⟨h,hk⟩ | ⟨h,hk⟩
        · rw [hk] at HTS;have HT:=hid HTS.out
          clear HTS HFA hk
          obtain ⟨h1',h2'⟩:=h
          generalize hb:(s[pos]'hp).toNat=b at *
          have q0:decide (97≤(b:Int))=true:=decide_eq_true ω
          have q1:decide ((b:Int)≤122)=true:=decide_eq_true ω
          go_wp2
          go_roundw
          case rel=>exact ⟨pos+1,by first | rfl | trivial,by go_num,ω,HT.out⟩
          case measure=>simp [intOf];omega
        · rw [hk] at HTS;have HT:=hid HTS.out
          clear HTS HFA hk
          obtain ⟨h1',h2'⟩:=h
          generalize hb:(s[pos]'hp).toNat=b at *
          have q0:decide (97≤(b:Int))=false:=decide_eq_false ω
          have q1:decide (48≤(b:Int))=true:=decide_eq_true ω
          have q2:decide ((b:Int)≤57)=true:=decide_eq_true ω
          go_wp2
          go_roundw
          case rel=>exact ⟨pos+1,by first | rfl | trivial,by go_num,ω,HT.out⟩
          case measure=>simp [intOf];omega
        · rw [hk] at HTS;have HT:=hid HTS.out
          clear HTS HFA hk
          generalize hb:(s[pos]'hp).toNat=b at *
          obtain rfl:b=46:=ω
          clear h
          go_wp2
          go_roundw
          case rel=>exact ⟨pos+1,by first | rfl | trivial,by go_num,ω,HT.out⟩
          case measure=>simp [intOf];omega
        · rw [hk] at HTS;have HT:=hid HTS.out
          clear HTS HFA hk
          generalize hb:(s[pos]'hp).toNat=b at *
          obtain rfl:b=95:=ω
          clear h
          go_wp2
          go_roundw
          case rel=>exact ⟨pos+1,by first | rfl | trivial,by go_num,ω,HT.out⟩
          case measure=>simp [intOf];omega
        · rw [hk] at HTS;have HT:=hid HTS.out
          clear HTS HFA hk
          generalize hb:(s[pos]'hp).toNat=b at *
          obtain rfl:b=45:=ω
          clear h
          go_wp2
          go_roundw
          case rel=>exact ⟨pos+1,by first | rfl | trivial,by go_num,ω,HT.out⟩
          case measure=>simp [intOf];omega
        · have HF:=hid (HFA.out hk)
          clear HTS HFA hk
          generalize hb:(s[pos]'hp).toNat=b at *
          have q0:decide (97≤(b:Int))=false:=decide_eq_false ω
          have q1:decide (48≤(b:Int))=false:=decide_eq_false ω
          have q2:((b:Int) == 46)=false:=by simp;omega
          have q3:((b:Int) == 95)=false:=by simp;omega
          have q4:((b:Int) == 45)=false:=by simp;omega
          go_wp2
          go_ret
          exact ⟨CA HF.out.symm,rfl⟩
        · have HF:=hid (HFA.out hk)
          clear HTS HFA hk
          generalize hb:(s[pos]'hp).toNat=b at *
          have q0:decide (97≤(b:Int))=false:=decide_eq_false ω
          have q1:decide (48≤(b:Int))=true:=decide_eq_true ω
          have q2:decide ((b:Int)≤57)=false:=decide_eq_false ω
          have q3:((b:Int) == 46)=false:=by simp;omega
          have q4:((b:Int) == 95)=false:=by simp;omega
          have q5:((b:Int) == 45)=false:=by simp;omega
          go_wp2
          go_ret
          exact ⟨CA HF.out.symm,rfl⟩
        · have HF:=hid (HFA.out hk)
          clear HTS HFA hk
          generalize hb:(s[pos]'hp).toNat=b at *
          have q0:decide (97≤(b:Int))=true:=decide_eq_true ω
          have q1:decide ((b:Int)≤122)=false:=decide_eq_false ω
          have q2:decide (48≤(b:Int))=true:=decide_eq_true ω
          have q3:decide ((b:Int)≤57)=false:=decide_eq_false ω
          have q4:((b:Int) == 46)=false:=by simp;omega
          have q5:((b:Int) == 95)=false:=by simp;omega
          have q6:((b:Int) == 45)=false:=by simp;omega
          go_wp2
          go_ret
          exact ⟨CA HF.out.symm,rfl⟩
      · have hf:LW s=true:=by
          rw [List.take_of_length_le (by simp;omega)] at hall
          exact hall
        have HF:=hid hf
        have dp:decide ((pos:Int)<(s.size:Int))=false:=decide_eq_false ω
        clear hf hall
        go_wp2
        go_ret
        exact ⟨CA HF.out.symm,rfl⟩
  · have hm:mayN s=false:=by unfold mayN;rw [decide_eq_false h4];simp
    rw [hm]
    have d4:decide (12<(s.size:Int))=true:=decide_eq_true ω
    have d1:decide ((s.size:Int)<1)=false:=decide_eq_false ω
    clear hm h0
    go_enter Tryz.func23,Tryz.ntmps23
    go_wp2
    go_ret
    exact ⟨rfl,rfl⟩
end
section
theorem PP {a:Act} {d:Option Tmp} {n:Tmp} {v:Value} (h:d=some n):a.put d v={ a with tmps:=a.tmps.setIfInBounds n v }:=by subst h;rfl
theorem TF {P:Program} {ops:Array Oper} {Q:Exit→Act→World→Prop} {md:Region.Mode} {S:World→Prop} {i:Nat} {oi:Oper} {d:Tmp} {v:Value} {fuel:Nat} {listed:Array Bool} {a:Act} {w:World}
    (hi:ops[i]? = some oi) (hd:oi.dst=some d)
    (hs:Region.noSelect ops=true) (hf:Region.free md ops listed i=true) (hr:(Region.ready md ops listed).contains i=true)
    (hQ:∀ c a w,Q (.panic c) (a.put oi.dst v) w→Q (.panic c) a w) (hy:YieldsIf P ops S oi v a) (hS:S w)
    (h:wpAnyH P md ops Q S fuel (listed.setIfInBounds i true) { tmps:=a.tmps.setIfInBounds d v,defers:=a.defers } w):wpAnyH P md ops Q S (fuel+1) listed a w:=
  wpAnyH_take hi hs hf hr hQ hy hS (by rw [PP hd];exact h)
end
section
theorem MV {w w':World} {g o:Nat} {cs:List Value} (h:w.rangeAt g o cs) (hb:Below w.heap.size w w'):w'.rangeAt g o cs:=fun j v hv=>by
  have:=h j v hv
  exact (hb.cell (World.block_lt_of_cell? w _ this)).trans this
theorem At.step {w0:World} {g o:Nat} {cs:List Value} {w w':World} (h:w.rangeAt g o cs∧Below w0.heap.size w0 w) (hb:Below w.heap.size w w'):w'.rangeAt g o cs∧Below w0.heap.size w0 w':=
  ⟨MV h.1 hb,Cd h.2 hb⟩
theorem Blk.range {w:World} {g:Nat} {e:TypeId} {L:List Value} (h:Blk w g e L):w.rangeAt g 0 L:=fun j v hv=>by
  obtain ⟨h1,h2⟩:=List.getElem?_eq_some_iff.1 hv
  rw [Nat.zero_add,h.cell h1,h2]
end
section
theorem SX {w w':World} {h:Nat} (g:w.grownBy w' (some h)) (i:Nat) (v:Value):w.grownBy (w'.setCell ⟨h,i,none⟩ v) (some h):=
  ⟨g.os,g.tape,g.output,by simp [World.setCell];exact g.size,fun k hk hne=>by
    rw [Below.heap_setCell _ _ _ _ (by rintro rfl;exact hne rfl)];exact g.block k hk hne⟩
theorem OP (w:World) (r:Option Nat):w.grownBy w r:=⟨rfl,rfl,rfl,Nat.le_refl _,fun _ _ _=>rfl⟩
theorem Ry {w w1 w2:World} {r:Option Nat} (a:w.grownBy w1 r) (b:w1.grownBy w2 r):w.grownBy w2 r:=
  ⟨b.os.trans a.os,b.tape.trans a.tape,b.output.trans a.output,Nat.le_trans a.size b.size,fun k hk hne=>(b.block k (Nat.lt_of_lt_of_le hk a.size) hne).trans (a.block k hk hne)⟩
theorem Blk.there {w:World} {g:Nat} {e:TypeId} {L:List Value} (h:Blk w g e L) (o n:Nat) (hn:o+n≤L.length):w.there g o n:=fun j hj=>by
  rw [Blk.cell h (ω:o+j<L.length)];exact ⟨rfl,Blk.frozen h _⟩
theorem Blk.setCells {g:Nat} {e:TypeId}:∀ (vs:List Value) (o:Nat) (w:World) (L:List Value),Blk w g e L→o+vs.length≤L.length→Blk (w.setCells g o vs) g e (splice L o vs)∧w.grownBy (w.setCells g o vs) (some g)
  | [],o,w,L,h,_=>by
    refine ⟨?_,OP w _⟩
    simp [splice];exact h
  | v::r,o,w,L,h,hl=>by
    simp only [List.length_cons] at hl
    have h1:=Blk.set h o v
    obtain ⟨h2,h3⟩:=Blk.setCells r (o+1) _ _ h1 (by simp;omega)
    refine ⟨?_,Ry (SX (OP w _) o v) h3⟩
    have e1:splice (L.set o v) (o+1) r=splice L o (v::r):=by
      apply List.ext_getElem?
      intro i
      rw [getElem?_splice _ _ _ (by simp;omega),getElem?_splice _ _ _ (by simp;omega)]
      by_cases h0:i=o
      · subst h0
        rw [if_neg ω,if_pos (by simp)]
        simp [List.getElem?_set,show i<L.length by omega]
      · by_cases h4:o+1≤i∧i<o+1+r.length
        · rw [if_pos h4,if_pos (by simp;omega),show i-o=(i-(o+1))+1 by omega,List.getElem?_cons_succ]
        · rw [if_neg h4,if_neg (by simp;omega),List.getElem?_set_ne ω]
    rw [← e1];exact h2
theorem Ll {P:Program} {fn:Func} {c:Tmp} {T:TypeId} (h:fn.results=#[.cell c T]) {tmps:Array Value} {w:World} {g:Nat} {e:TypeId} {L:List Value} {k:TypeDesc} (hc:tmps.getD c undef=π g) (hb:Blk w g e L)
    (hu:P.underlying T=some k) (hk:k.isRow=true) (hn:(P.info? T).map (·.size)=some L.length) :
    (results fn tmps).run P w=.ok (.agg L.toArray) w:=by
  have hv:=run_loadVar_mid (P:=P) w g 0 T L k hb.range hu hk hn
  have hc':tmps[c]?.getD undef=π g:=by simpa using hc
  simp [results,h,hc',asAddr,hv]
theorem Lm {P:Program} {fn:Func} {c u:Tmp} {T:TypeId} (h:fn.results=#[.cell c T,.tmp u]) {tmps:Array Value} {w:World} {g:Nat} {e:TypeId} {L:List Value} {k:TypeDesc} (hc:tmps.getD c undef=π g) (hb:Blk w g e L)
    (hu:P.underlying T=some k) (hk:k.isRow=true) (hn:(P.info? T).map (·.size)=some L.length) :
    (results fn tmps).run P w=.ok (.tuple #[.agg L.toArray,tmps.getD u undef]) w:=by
  have hv:=run_loadVar_mid (P:=P) w g 0 T L k hb.range hu hk hn
  have hc':tmps[c]?.getD undef=π g:=by simpa using hc
  simp [results,h,hc',asAddr,hv]
def Ur (C:List Value) (z:Value) (n:Nat):List Value:=C.take n++List.replicate (C.length-n) z
end
section
theorem KQ {w:World} {g:Nat} {e:TypeId} {L:List Value} (h:Blk w g e L) (sz n:Nat) (hl:L.length=n*sz) (hm:n≤9223372036854775807):Row w sz (some ⟨g,0,none⟩) n n L:=
  ⟨hl,Nat.le_refl _,by unfold maxLen;omega,(fun h=>by cases h),fun hn=>⟨g,0,rfl,h.lt,fun j u hu=>by
    obtain ⟨h1,h2⟩:=List.getElem?_eq_some_iff.1 hu
    rw [Nat.zero_add,h.cell h1,h2]⟩⟩
theorem PN {w:World} {B:Nat} {e:TypeId} {sz:Nat} {a:Option Addr} {n c:Nat} {cs:List Value} (h:Own w B e sz a n c cs) (hn:0<n):∃ g,a=some ⟨g,0,none⟩:=by
  obtain ⟨h0,h⟩:=h
  rcases h with ⟨hv,h1⟩ | ⟨g,cap,cur,hv,_⟩
  · omega
  · cases hv;exact ⟨g,rfl⟩
theorem GX {W:World} {n:Nat} (h:W.heap.size=n) (e:TypeId) (L:List Value):Blk (W.alloc (.cells L.toArray e)) n e L:=by subst h;exact heap_alloc_new W _
theorem Mw (W:World) (o:Obj):Below W.heap.size W (W.alloc o):=(Below.refl _ W).alloc (Nat.le_refl _) o
theorem MD {α:Type} (enc:α→List Value) (sz:Nat) (h:∀ x,(enc x).length=sz):∀ L:List α,(L.flatMap enc).length=L.length*sz
  | []=>by simp
  | x::r=>by
    show (enc x++r.flatMap enc).length=_
    rw [List.length_append,h,MD enc sz h r,List.length_cons,Nat.succ_mul];omega
theorem MC {α:Type} (enc:α→List Value) (sz:Nat) (h:∀ x,(enc x).length=sz):∀ (L:List α) (i j:Nat) (hi:i<L.length),j<sz→(L.flatMap enc)[i*sz+j]? = (enc L[i])[j]?
  | x::r,0,j,_,hj=>by
    show (enc x++r.flatMap enc)[0*sz+j]? = _
    rw [Nat.zero_mul,Nat.zero_add,List.getElem?_append_left (by rw [h];exact hj)];rfl
  | x::r,i+1,j,hi,hj=>by
    show (enc x++r.flatMap enc)[(i+1)*sz+j]? = _
    rw [List.getElem?_append_right (by rw [h,Nat.succ_mul];omega),h,Nat.succ_mul,show i*sz+sz+j-sz=i*sz+j by omega,MC enc sz h r i j (by simpa using hi) hj];rfl
theorem ME {α:Type} (enc:α→List Value) (sz:Nat) (h:∀ x,(enc x).length=sz):∀ (L:List α) (i:Nat) (y:α),i<L.length→(L.set i y).flatMap enc=splice (L.flatMap enc) (i*sz) (enc y)
  | x::r,0,y,_=>by
    show enc y++r.flatMap enc=splice (enc x++r.flatMap enc) (0*sz) (enc y)
    unfold splice
    simp [h]
  | x::r,i+1,y,hi=>by
    show enc x++(r.set i y).flatMap enc=splice (enc x++r.flatMap enc) ((i+1)*sz) (enc y)
    rw [ME enc sz h r i y (by simpa using hi)]
    unfold splice
    have hx:=h x
    have e1:(i+1)*sz=(enc x).length+i*sz:=by rw [hx,Nat.succ_mul];omega
    rw [e1,List.take_length_add_append,Nat.add_assoc,List.drop_length_add_append]
    simp only [List.append_assoc]
theorem NT {w:World} {B:Nat} {e:TypeId} {sz g n c:Nat} {cs:List Value} (h:Own w B e sz (some ⟨g,0,none⟩) n c cs) :
    ∃ L,Blk w g e L∧n*sz≤L.length∧B≤g∧∀ w' off (vs:List Value),off+vs.length≤n*sz→Blk w' g e (splice L off vs)→Own w' B e sz (some ⟨g,0,none⟩) n c (splice cs off vs):=by
  have h0:=h.1
  obtain ⟨L,hb,hl,hB,ht,hnc,hc⟩:=Own.blk h
  have hle:n*sz≤L.length:=by rw [hl];exact Nat.mul_le_mul_right sz hnc
  refine ⟨L,hb,hle,hB,fun w' off vs hv hb'=>?_⟩
  have hs:(splice L off vs).length=L.length:=length_splice L off vs ω
  have q:=Own.of_blk (B:=B) (sz:=sz) (n:=n) (c:=c) hb' hB hnc hc (by rw [hs,hl])
  have e1:L=cs++L.drop (n*sz):=by rw [← ht,List.take_append_drop]
  have e2:(splice L off vs).take (n*sz)=splice cs off vs:=by
    rw [e1,Ln cs _ vs off ω]
    exact List.take_left' (by rw [length_splice cs off vs ω];exact h0)
  rw [e2] at q
  exact q
end
section
open Go.RowKit Go.Shelf
def Us (l:List UInt8):Option Nat:=l.findIdx? (fun b=>b == 47)
def Bs:List UInt8→List (List UInt8)
  | []=>[[]]
  | b::l=>if b == 47 then []::Bs l else match Bs l with
    | p::r=>(b::p)::r
    | []=>[[b]]
theorem JI (b:UInt8) (l:List UInt8):Bs (b::l)=if b == 47 then []::Bs l else match Bs l with
    | p::r=>(b::p)::r
    | []=>[[b]]:=by rw [Bs]
theorem Jt (l:List UInt8):Bs l≠[]:=by
  cases l with
  | nil=>simp [Bs]
  | cons b l=>
    unfold Bs
    split
    · simp
    · split<;>simp
theorem EE:∀ {l:List UInt8},(∀ b∈l,b≠47)→Bs l=[l]
  | [],_=>rfl
  | b::l,h=>by
    have hb:(b == 47)=false:=by simpa using h b (by simp)
    have ih:=EE (l:=l) (fun x hx=>h x (by simp [hx]))
    unfold Bs
    rw [hb,ih];rfl
theorem Fy:∀ (p r:List UInt8),(∀ b∈p,b≠47)→Bs (p++47::r)=p::Bs r
  | [],r,_=>by
    show Bs (47::r)=_
    rw [JI];rfl
  | b::p,r,h=>by
    have hb:(b == 47)=false:=by simpa using h b (by simp)
    have ih:=Fy p r (fun x hx=>h x (by simp [hx]))
    show Bs (b::(p++47::r))=_
    rw [JI,hb,ih];rfl
theorem HJ:∀ l:List UInt8,(Bs l).length≤l.length+1
  | []=>by simp [Bs]
  | b::l=>by
    have ih:=HJ l
    unfold Bs
    split
    · simp;omega
    · split
      · rename_i h;rw [h] at ih;simp at ih ⊢;omega
      · simp
def Ad (l:List UInt8):ByteArray:=⟨l.toArray⟩
abbrev σ (l : List UInt8) : Value := .string (Ad l)
theorem DM (l:List UInt8):(Ad l).data.toList=l:=rfl
theorem Dj (l:List UInt8):(Ad l).size=l.length:=by show l.toArray.size=_;simp
theorem Hw (s:ByteArray) (a b:Nat):s.extract a b=Ad ((s.data.toList.drop a).take (b-a)):=by
  apply ByteArray.ext
  rw [ByteArray.data_extract]
  apply Array.ext'
  rw [Array.toList_extract]
  show (s.data.toList.extract a b)=_
  rw [List.extract_eq_take_drop];rfl
theorem FZ (l:List UInt8):(Lib.indexByte l 47=-1∧∀ b∈l,b≠47)∨(∃ k:Nat,Lib.indexByte l 47=k∧k<l.length∧(∀ b∈l.take k,b≠47)∧l=l.take k++47::l.drop (k+1)):=by
  have hge:=Lib.indexByte_ge l 47
  by_cases h:Lib.indexByte l 47=-1
  · refine .inl ⟨h,fun b hb e=>?_⟩
    obtain ⟨i,hi,rfl⟩:=List.getElem_of_mem hb
    exact Lib.indexByte_none h i (by rw [List.getElem?_eq_getElem hi,e])
  · obtain ⟨k,hk⟩:∃ k:Nat,Lib.indexByte l 47=k:=⟨(Lib.indexByte l 47).toNat,ω⟩
    obtain ⟨h1,h2⟩:=Lib.indexByte_some hk
    obtain ⟨h3,h4⟩:=List.getElem?_eq_some_iff.1 h1
    refine .inr ⟨k,hk,h3,fun b hb e=>?_,?_⟩
    · obtain ⟨i,hi,rfl⟩:=List.getElem_of_mem hb
      rw [List.length_take] at hi
      rw [List.getElem_take] at e
      exact h2 i ω (by rw [List.getElem?_eq_getElem ω,e])
    · rw [← h4,List.getElem_cons_drop,List.take_append_drop]
theorem NE (s:ByteArray) (w:World):Calls Tryz.prog 151 #[.string s,.int .u8 47] w fun e w'=>e=.returned (ν (Lib.indexByte s.data.toList 47))∧w=w':=by
  go_enter Tryz.func151,Tryz.ntmps151
  go_wp2
  rw [run_callFunc_extern Tryz.func159 κ κ κ (e:=Extern.BytealgIndexByte.indexByte) κ,Lib.run_indexByteString]
  simp only [Result.andThen]
  rw [Oper.upon_value]
  go_wp2
  go_ret
  exact ⟨rfl,rfl⟩
theorem NF (s:ByteArray) (w:World):Calls Tryz.prog 139 #[.string s,.string ⟨#[47]⟩] w fun e w'=>e=.returned (ν (Lib.indexByte s.data.toList 47))∧w=w':=by
  by_cases hs:s=⟨#[47]⟩
  · subst hs
    go_enter Tryz.func139,Tryz.ntmps139
    go_wp2_with fail
    go_ret
    exact ⟨Sf (by decide +kernel),rfl⟩
  have e1:=EH s ⟨#[47]⟩
  rw [decide_eq_false hs,LD] at e1
  have e2:=EH ⟨#[47]⟩ s
  rw [decide_eq_false (fun h=>hs h.symm),LD] at e2
  have HI:=hid (fun w1=>NE s w1)
  clear hs
  go_enter Tryz.func139,Tryz.ntmps139
  go_wp2_with (go_at_call 151;refine (HI.out _).mono ?_;rintro e w1 ⟨rfl,rfl⟩)
  go_ret
  exact ⟨rfl,rfl⟩
theorem LC (s:ByteArray) (w:World):Calls Tryz.prog 125 #[.string s,.string ⟨#[47]⟩] w fun e w'=>e=.returned (ν (Lib.indexByte s.data.toList 47))∧w=w':=by
  have HI:=hid (fun w1=>NF s w1)
  go_enter Tryz.func125,Tryz.ntmps125
  go_wp2_with (go_at_call 139;refine (HI.out _).mono ?_;rintro e w1 ⟨rfl,rfl⟩)
  go_ret
  exact ⟨rfl,rfl⟩
def Lo (x:ByteArray):Value:=.string x
abbrev HV (w:World) (a:Option Addr) (c:Nat) (L:List ByteArray):Prop:=Row w 1 a L.length c (L.map Lo)
abbrev Mu (w:World) (B:Nat) (a:Option Addr) (c:Nat) (L:List ByteArray):Prop:=Own w B 9 1 a L.length c (L.map Lo)
theorem ES:ElemT Tryz.prog 33 9 1 16:=LA υ33 (z:=.string ⟨#[]⟩) κ rfl ω
theorem EW {w:World} {a:Option Addr} {c:Nat} {L:List ByteArray} (h:HV w a c L) (hn:0<L.length) :
    ∃ b off,a=some ⟨b,off,none⟩∧b<w.heap.size∧∀ i (hi:i<L.length),w.cell? ⟨b,off+i,none⟩=some (.string L[i]):=by
  obtain ⟨b,off,e,hlt,hc⟩:=h.at hn
  exact ⟨b,off,e,hlt,fun i hi=>hc i _ (by simp [hi,Lo])⟩
theorem KP {w:World} {a:Option Addr} {c:Nat} {L:List ByteArray} (h:HV w a c L):L.length≤9223372036854775807:=by
  have h1:=h.2.1;have h2:=h.2.2.1;unfold maxLen at h2;omega
theorem LX (a:Option Addr) (c:Nat) (L:List ByteArray) (w:World) (h:HV w a c L) :
    Calls Tryz.prog 89 #[.slice a L.length c] w fun e w'=>e=.returned (.bool (L.all mayN))∧Below w.heap.size w w':=by
  have hl:=KP h
  have HR:=hid h
  clear h
  go_enter Tryz.func89,Tryz.ntmps89
  go_wp2
  go_loopw [7] (fun i wr=>∃ j:Nat,j≤L.length∧i=ν j∧(L.take j).all mayN=true∧Below w.heap.size w wr) (fun i _=>L.length-(intOf i).toNat)
  case atStart=>exact ⟨0,Nat.zero_le _,rfl,by simp,Below.refl _ _⟩
  case round=>
    obtain ⟨j,hj,rfl,hall,hb⟩:=hrel
    by_cases hlt:j<L.length
    · obtain ⟨b,off,rfl,hbl,hc⟩:=EW (HR.out.mono hb) ω
      have cj:=hc j hlt
      have ij:(j:Int)<L.length:=ω
      have dj:decide ((j:Int)<(L.length:Int))=true:=decide_eq_true ij
      have hsn:(L.take (j+1)).all mayN=mayN L[j]:=by rw [List.take_succ_eq_append_getElem hlt,List.all_append,hall];simp
      have hbad:mayN L[j]=false→L.all mayN=false:=fun h=>by
        rw [List.all_eq_false];exact ⟨L[j],List.getElem_mem _,by rw [h];simp⟩
      have HM:=fun w1=>Rc L[j] w1
      have HSN:=hid hsn;have HBAD:=hid hbad;have HB:=hid hb
      clear hc hsn hbad hall hb
      generalize L[j]=x at *
      cases hm:mayN x with
      | true=>
        rw [hm] at HM HSN
        have HM:=hid HM
        clear hm
        go_wp2_with (go_at_call 104;refine (HM.out _).mono ?_;rintro e w1 ⟨rfl,b1⟩;have B1:=hid (Cd HB.out b1);clear b1)
        go_roundw
        case rel=>exact ⟨j+1,ω,by go_num,HSN.out,B1.out⟩
        case measure=>simp [intOf];omega
      | false=>
        rw [hm] at HM
        have HF:=hid (HBAD.out hm)
        have HM:=hid HM
        clear hm
        go_wp2_with (go_at_call 104;refine (HM.out _).mono ?_;rintro e w1 ⟨rfl,b1⟩;have B1:=hid (Cd HB.out b1);clear b1)
        go_ret
        exact ⟨CA HF.out.symm,B1.out⟩
    · obtain rfl:j=L.length:=ω
      have dj:decide ((L.length:Int)<(L.length:Int))=false:=decide_eq_false ω
      rw [List.take_length] at hall
      have HALL:=hid hall
      clear hall
      go_wp2
      go_ret
      exact ⟨CA HALL.out.symm,hb⟩
end
section
open Go.RowKit Go.Shelf
def Nm (w:World) (X:List UInt8) (e:Ending) (w':World):Prop:=
  ∃ (a:Option Addr) (c:Nat) (R:List ByteArray),e=.returned (.slice a R.length c)∧Mu w' w.heap.size a c R∧Below w.heap.size w w' ∧
    ((R=(Bs X).map Ad∧R.length≤6)∨(6<(Bs X).length∧∃ x∈R,(47:UInt8)∈x.data.toList))
def Tc (n:Nat):List Value:=List.replicate n (.string ⟨#[]⟩)
theorem RL (n:Nat):(Tc n).length=n:=List.length_replicate
def Mo (L:List (List UInt8)) (n:Nat):List Value:=(L.map Ad).map Lo++Tc (n-L.length)
theorem Gy (L:List (List UInt8)) {n:Nat} (h:L.length≤n):(Mo L n).length=n:=by simp [Mo,RL];omega
theorem MX (L:List (List UInt8)) {n:Nat} (h:L.length<n) (x:List UInt8):(Mo L n).set L.length (σ x)=Mo (L++[x]) n:=by
  unfold Mo
  have hl:((L.map Ad).map Lo).length=L.length:=by simp
  rw [List.set_append_right _ _ ω,hl,Nat.sub_self]
  unfold Tc
  rw [show n-L.length=(n-(L++[x]).length)+1 by simp;omega,List.replicate_succ,List.set_cons_zero,List.map_append,List.map_append,List.append_assoc]
  rfl
theorem HL (L:List (List UInt8)) (n:Nat):(Mo L n).take L.length=(L.map Ad).map Lo:=by
  unfold Mo
  exact List.take_left' (by simp)
theorem IJ (l:List UInt8) (k:Nat):(Ad l).extract 0 k=Ad (l.take k):=by rw [Hw,DM];simp
theorem Ki (l:List UInt8) (k:Nat):(Ad l).extract k l.length=Ad (l.drop k):=by
  rw [Hw,DM,List.take_of_length_le (by rw [List.length_drop];omega)]
theorem Md (X:List UInt8) (hX:X.length≤1000) (w:World):Calls Tryz.prog 103 #[σ X,.string ⟨#[47]⟩,ν 0,ν 6] w (Nm w X):=by
  have hsz:=Dj X
  have hp1:=HJ X
  by_cases h6:5≤X.length
  · have i6:(6:Int)≤(X.length:Int)+1:=ω
    go_enter Tryz.func103,Tryz.ntmps103
    go_wp2_with (refine Nk rfl (.tmp 30) (.tmp 30) rfl υ33 (z:=.string ⟨#[]⟩) (bytes:=16) κ rfl (n:=6) rfl rfl (by first | rfl | omega) (by first | rfl | omega) ω ω ?_;intro w1 k1 b1;have K1:=hid k1;have B1:=hid b1;clear k1 b1)
    clear hsz
    go_loopw [0,10] (fun sv i wr=>∃ (j:Nat) (cur:List UInt8) (out:List (List UInt8)),j<6∧sv=σ cur∧i=ν j∧out.length=j∧Bs X=out++Bs cur∧cur.length≤X.length∧Blk wr w.heap.size 9 (Mo out (6))∧Below w.heap.size w wr) (fun _ i _=>6-(intOf i).toNat)
    case atStart=>exact ⟨0,X,[],ω,rfl,rfl,rfl,rfl,Nat.le_refl _,K1.out,B1.out⟩
    case round=>
      obtain ⟨j,cur,out,hj,rfl,rfl,hol,hpc,hcl,hk,hb⟩:=hrel
      have HOL:=hid hol;have HPC:=hid hpc;have HB:=hid hb;have HK:=hid hk
      have hrl:=Gy out (n:=6) ω
      have hrs:=fun x=>MX out (n:=6) ω x
      have cj:∃ v,wr.cell? ⟨w.heap.size,j,none⟩=some v:=by rw [← hol];exact ⟨_,hk.cell (i:=out.length) (by rw [hrl,hol];omega)⟩
      obtain ⟨vj,cj⟩:=cj
      have fj:wr.frozen? ⟨w.heap.size,j,none⟩=false:=hk.frozen _
      have hlt:=hk.lt
      have HRS:=hid hrs
      have hcs:=Dj cur
      have HI:=hid (fun w1=>LC (Ad cur) w1)
      clear hol hpc hb hk hrl hrs
      have ijn:(j:Int)<((6:Nat):Int):=ω
      have e0:IntKind.i64.wrap ((j:Int)+1)=j+1:=IntWalk.i64_in _ ω
      by_cases hlast:j+1=6
      · have dl:decide ((j:Int)<5)=false:=decide_eq_false ω
        have il:¬ (j:Int)<5:=ω
        have HLAST:=hid hlast
        clear hlast
        go_wp2_with fail
        have hlast:=HLAST.out
        have q:=HK.out.set j (σ cur)
        have hr:=HRS.out cur
        rw [HOL.out] at hr
        rw [hr] at q
        have hpc2:=HPC.out
        go_ret
        refine ⟨some ⟨w.heap.size,0,none⟩,6,(out++[cur]).map Ad,?_,?_,HB.out.setCell (p:=⟨w.heap.size,j,none⟩) (Nat.le_refl _) _,?_⟩
        · have hlen:((out++[cur]).map Ad).length=j+1:=by rw [List.length_map,List.length_append,HOL.out];rfl
          rw [hlen];rfl
        · have hlen:(out++[cur]).length=j+1:=by rw [List.length_append,HOL.out];rfl
          have qq:=Own.of_blk (B:=w.heap.size) (sz:=1) (n:=j+1) (c:=6) q (Nat.le_refl _) ω (by unfold maxLen;omega) (by rw [Gy _ (by have:=HOL.out;simp;omega)];try omega)
          rw [Nat.mul_one,← hlen,HL] at qq
          show Own _ _ _ 1 _ ((out++[cur]).map Ad).length _ _
          rw [List.length_map]
          exact qq
        · rcases FZ cur with ⟨_,hno⟩ | ⟨k,hk1,hk2,hk3,hk4⟩
          · have hp:=EE hno
            rw [hp] at hpc2
            exact .inl ⟨by rw [hpc2],by rw [List.length_map,List.length_append,HOL.out];simp;omega⟩
          · refine .inr ⟨?_,Ad cur,by simp,by rw [DM,hk4];simp⟩
            have hp:=Fy (cur.take k) (cur.drop (k+1)) hk3
            rw [← hk4] at hp
            rw [hp] at hpc2
            have h1:(Bs X).length=out.length+(1+(Bs (cur.drop (k+1))).length):=by rw [hpc2];simp;omega
            have h2:=List.length_pos_iff.2 (Jt (cur.drop (k+1)))
            have h3:=HOL.out
            have h4:=HJ X
            omega
      · have dl:decide ((j:Int)<5)=true:=decide_eq_true ω
        have il:(j:Int)<5:=ω
        rcases FZ cur with ⟨hm,hno⟩ | ⟨k,hm,hk2,hk3,hk4⟩
        · rw [DM,hm] at HI
          have HNO:=hid hno
          clear hno hm
          go_wp2_with (go_at_call 125;refine (HI.out _).mono ?_;rintro e w2 ⟨rfl,rfl⟩)
          have q:=HK.out.set j (σ cur)
          have hr:=HRS.out cur
          rw [HOL.out] at hr
          rw [hr] at q
          have hpc2:=HPC.out
          go_ret
          refine ⟨some ⟨w.heap.size,0,none⟩,6,(out++[cur]).map Ad,?_,?_,HB.out.setCell (p:=⟨w.heap.size,j,none⟩) (Nat.le_refl _) _,?_⟩
          · have hlen:((out++[cur]).map Ad).length=j+1:=by rw [List.length_map,List.length_append,HOL.out];rfl
            rw [hlen];rfl
          · have hlen:(out++[cur]).length=j+1:=by rw [List.length_append,HOL.out];rfl
            have qq:=Own.of_blk (B:=w.heap.size) (sz:=1) (n:=j+1) (c:=6) q (Nat.le_refl _) ω (by unfold maxLen;omega) (by rw [Gy _ (by have:=HOL.out;simp;omega)];try omega)
            rw [Nat.mul_one,← hlen,HL] at qq
            show Own _ _ _ 1 _ ((out++[cur]).map Ad).length _ _
            rw [List.length_map]
            exact qq
          · have hp:=EE HNO.out
            rw [hp] at hpc2
            exact .inl ⟨by rw [hpc2],by rw [List.length_map,List.length_append,HOL.out];simp;omega⟩
        · rw [DM,hm] at HI
          have hp:=Fy (cur.take k) (cur.drop (k+1)) hk3
          rw [← hk4] at hp
          have HP:=hid hp
          have x1:=IJ cur k
          have x2:=Ki cur (k+1)
          have ik:(k:Int)<cur.length:=ω
          have ik2:(k:Int)+1≤cur.length:=ω
          clear hk4 hk3 hm hp
          go_wp2_with (go_at_call 125;refine (HI.out _).mono ?_;rintro e w2 ⟨rfl,rfl⟩)
          go_roundw
          case rel=>
            refine ⟨j+1,cur.drop (k+1),out++[cur.take k],ω,rfl,by go_num,by rw [List.length_append,HOL.out];rfl,by rw [HPC.out,HP.out,List.append_assoc];rfl,by rw [List.length_drop];omega,?_,HB.out.setCell (p:=⟨w.heap.size,j,none⟩) (Nat.le_refl _) _⟩
            have q:=HK.out.set j (σ (cur.take k))
            have hr:=HRS.out (cur.take k)
            rw [HOL.out] at hr
            rw [hr] at q
            exact q
          case measure=>simp [intOf];omega
  · have i6:¬ (6:Int)≤(X.length:Int)+1:=ω
    go_enter Tryz.func103,Tryz.ntmps103
    go_wp2_with (refine Nk rfl (.tmp 30) (.tmp 30) rfl υ33 (z:=.string ⟨#[]⟩) (bytes:=16) κ rfl (n:=(X.length+1)) rfl rfl (by first | rfl | omega) (by first | rfl | omega) ω ω ?_;intro w1 k1 b1;have K1:=hid k1;have B1:=hid b1;clear k1 b1)
    clear hsz
    go_loopw [0,10] (fun sv i wr=>∃ (j:Nat) (cur:List UInt8) (out:List (List UInt8)),j<(X.length+1)∧sv=σ cur∧i=ν j∧out.length=j∧Bs X=out++Bs cur∧cur.length≤X.length∧Blk wr w.heap.size 9 (Mo out ((X.length+1)))∧Below w.heap.size w wr) (fun _ i _=>(X.length+1)-(intOf i).toNat)
    case atStart=>exact ⟨0,X,[],ω,rfl,rfl,rfl,rfl,Nat.le_refl _,K1.out,B1.out⟩
    case round=>
      obtain ⟨j,cur,out,hj,rfl,rfl,hol,hpc,hcl,hk,hb⟩:=hrel
      have HOL:=hid hol;have HPC:=hid hpc;have HB:=hid hb;have HK:=hid hk
      have hrl:=Gy out (n:=(X.length+1)) ω
      have hrs:=fun x=>MX out (n:=(X.length+1)) ω x
      have cj:∃ v,wr.cell? ⟨w.heap.size,j,none⟩=some v:=by rw [← hol];exact ⟨_,hk.cell (i:=out.length) (by rw [hrl,hol];omega)⟩
      obtain ⟨vj,cj⟩:=cj
      have fj:wr.frozen? ⟨w.heap.size,j,none⟩=false:=hk.frozen _
      have hlt:=hk.lt
      have HRS:=hid hrs
      have hcs:=Dj cur
      have HI:=hid (fun w1=>LC (Ad cur) w1)
      clear hol hpc hb hk hrl hrs
      have ijn:(j:Int)<(((X.length+1):Nat):Int):=ω
      have e0:IntKind.i64.wrap ((j:Int)+1)=j+1:=IntWalk.i64_in _ ω
      by_cases hlast:j+1=(X.length+1)
      · have dl:decide ((j:Int)<(X.length:Int))=false:=decide_eq_false ω
        have il:¬ (j:Int)<(X.length:Int):=ω
        have HLAST:=hid hlast
        clear hlast
        go_wp2_with fail
        have hlast:=HLAST.out
        have q:=HK.out.set j (σ cur)
        have hr:=HRS.out cur
        rw [HOL.out] at hr
        rw [hr] at q
        have hpc2:=HPC.out
        go_ret
        refine ⟨some ⟨w.heap.size,0,none⟩,(X.length+1),(out++[cur]).map Ad,?_,?_,HB.out.setCell (p:=⟨w.heap.size,j,none⟩) (Nat.le_refl _) _,?_⟩
        · have hlen:((out++[cur]).map Ad).length=j+1:=by rw [List.length_map,List.length_append,HOL.out];rfl
          rw [hlen];rfl
        · have hlen:(out++[cur]).length=j+1:=by rw [List.length_append,HOL.out];rfl
          have qq:=Own.of_blk (B:=w.heap.size) (sz:=1) (n:=j+1) (c:=(X.length+1)) q (Nat.le_refl _) ω (by unfold maxLen;omega) (by rw [Gy _ (by have:=HOL.out;simp;omega)];try omega)
          rw [Nat.mul_one,← hlen,HL] at qq
          show Own _ _ _ 1 _ ((out++[cur]).map Ad).length _ _
          rw [List.length_map]
          exact qq
        · rcases FZ cur with ⟨_,hno⟩ | ⟨k,hk1,hk2,hk3,hk4⟩
          · have hp:=EE hno
            rw [hp] at hpc2
            exact .inl ⟨by rw [hpc2],by rw [List.length_map,List.length_append,HOL.out];simp;omega⟩
          · refine .inr ⟨?_,Ad cur,by simp,by rw [DM,hk4];simp⟩
            have hp:=Fy (cur.take k) (cur.drop (k+1)) hk3
            rw [← hk4] at hp
            rw [hp] at hpc2
            have h1:(Bs X).length=out.length+(1+(Bs (cur.drop (k+1))).length):=by rw [hpc2];simp;omega
            have h2:=List.length_pos_iff.2 (Jt (cur.drop (k+1)))
            have h3:=HOL.out
            have h4:=HJ X
            omega
      · have dl:decide ((j:Int)<(X.length:Int))=true:=decide_eq_true ω
        have il:(j:Int)<(X.length:Int):=ω
        rcases FZ cur with ⟨hm,hno⟩ | ⟨k,hm,hk2,hk3,hk4⟩
        · rw [DM,hm] at HI
          have HNO:=hid hno
          clear hno hm
          go_wp2_with (go_at_call 125;refine (HI.out _).mono ?_;rintro e w2 ⟨rfl,rfl⟩)
          have q:=HK.out.set j (σ cur)
          have hr:=HRS.out cur
          rw [HOL.out] at hr
          rw [hr] at q
          have hpc2:=HPC.out
          go_ret
          refine ⟨some ⟨w.heap.size,0,none⟩,(X.length+1),(out++[cur]).map Ad,?_,?_,HB.out.setCell (p:=⟨w.heap.size,j,none⟩) (Nat.le_refl _) _,?_⟩
          · have hlen:((out++[cur]).map Ad).length=j+1:=by rw [List.length_map,List.length_append,HOL.out];rfl
            rw [hlen];rfl
          · have hlen:(out++[cur]).length=j+1:=by rw [List.length_append,HOL.out];rfl
            have qq:=Own.of_blk (B:=w.heap.size) (sz:=1) (n:=j+1) (c:=(X.length+1)) q (Nat.le_refl _) ω (by unfold maxLen;omega) (by rw [Gy _ (by have:=HOL.out;simp;omega)];try omega)
            rw [Nat.mul_one,← hlen,HL] at qq
            show Own _ _ _ 1 _ ((out++[cur]).map Ad).length _ _
            rw [List.length_map]
            exact qq
          · have hp:=EE HNO.out
            rw [hp] at hpc2
            exact .inl ⟨by rw [hpc2],by rw [List.length_map,List.length_append,HOL.out];simp;omega⟩
        · rw [DM,hm] at HI
          have hp:=Fy (cur.take k) (cur.drop (k+1)) hk3
          rw [← hk4] at hp
          have HP:=hid hp
          have x1:=IJ cur k
          have x2:=Ki cur (k+1)
          have ik:(k:Int)<cur.length:=ω
          have ik2:(k:Int)+1≤cur.length:=ω
          clear hk4 hk3 hm hp
          go_wp2_with (go_at_call 125;refine (HI.out _).mono ?_;rintro e w2 ⟨rfl,rfl⟩)
          go_roundw
          case rel=>
            refine ⟨j+1,cur.drop (k+1),out++[cur.take k],ω,rfl,by go_num,by rw [List.length_append,HOL.out];rfl,by rw [HPC.out,HP.out,List.append_assoc];rfl,by rw [List.length_drop];omega,?_,HB.out.setCell (p:=⟨w.heap.size,j,none⟩) (Nat.le_refl _) _⟩
            have q:=HK.out.set j (σ (cur.take k))
            have hr:=HRS.out (cur.take k)
            rw [HOL.out] at hr
            rw [hr] at q
            exact q
          case measure=>simp [intOf];omega
end
section
open Go.RowKit Go.Shelf
def DZ (rest:List UInt8):Option (List ByteArray):=if (Bs rest).length≤6∧((Bs rest).map Ad).all mayN=true then some ((Bs rest).map Ad) else none
def FM:List UInt8→Option (List ByteArray)
  | b::r=>if b=47 then DZ r else none
  | []=>none
def Ag (X:List UInt8):Option (List ByteArray):=if X=[47] then some [] else FM X
def erO (o:Option (List ByteArray)):Int:=match o with | some _=>0 | none=>15
def JB (w:World) (o:Option (List ByteArray)) (e:Ending) (w':World):Prop:=
  ∃ a c,e=.returned (.tuple #[.slice a (o.getD []).length c,ν (erO o)])∧Mu w' w.heap.size a c (o.getD [])∧Below w.heap.size w w'
theorem DE {w w':World} {o:Option (List ByteArray)} {e:Ending} (ho:o=none) (he:e=.returned (.tuple #[.slice none 0 0,ν 15])) (hb:Below w.heap.size w w'):JB w o e w':=by
  subst ho;exact ⟨none,0,he,Own.nil _ _ _ _,hb⟩
theorem Ka {w w':World} {o:Option (List ByteArray)} {e:Ending} (ho:o=some []) (he:e=.returned (.tuple #[.slice none 0 0,ν 0])) (hb:Below w.heap.size w w'):JB w o e w':=by
  subst ho;exact ⟨none,0,he,Own.nil _ _ _ _,hb⟩
theorem Kb {w w':World} {o:Option (List ByteArray)} {e:Ending} {L:List ByteArray} {a:Option Addr} {c:Nat} (ho:o=some L) (he:e=.returned (.tuple #[.slice a L.length c,ν 0])) (h:Mu w' w.heap.size a c L) (hb:Below w.heap.size w w'):JB w o e w':=by
  subst ho;exact ⟨a,c,he,h,hb⟩
theorem Mk {x:ByteArray} (h:(47:UInt8)∈x.data.toList):mayN x=false:=by
  have:LW x=false:=by
    unfold LW
    rw [List.all_eq_false]
    exact ⟨47,h,by decide⟩
  unfold mayN;rw [this];simp
theorem Sj (X:List UInt8) (Y:List UInt8):(Ad X=Ad Y)↔X=Y:=by
  constructor
  · intro h
    have:=congrArg (fun s:ByteArray=>s.data.toList) h
    simpa [Ad] using this
  · rintro rfl;rfl
theorem Oi (X:List UInt8) (hX:X.length≤1000) (w:World):Calls Tryz.prog 88 #[σ X,.string ⟨#[47]⟩,ν 6] w (Nm w X):=by
  have HG:=Md X hX w
  unfold Nm at HG ⊢
  have HG:=hid HG
  go_enter Tryz.func88,Tryz.ntmps88
  go_wp2_with (go_at_call 103;fail)
  refine (HG.out).mono ?_
  rintro e w1 ⟨a,c,R,rfl,o,b,h⟩
  have O:=hid o;have B:=hid b;have H:=hid h
  clear o b h
  go_wp2_with fail
  go_ret
  exact ⟨a,c,R,rfl,O.out,B.out,H.out⟩
theorem Fv (X:List UInt8):(Ad X).toList=X:=by rw [ByteArray.toList_eq];rfl
theorem Ns (r:List UInt8) (w:World):Calls Tryz.prog 87 #[.string (Ad (47::r)),.string ⟨#[47]⟩] w fun e w'=>e=.returned (.tuple #[.string (Ad r),.bool true])∧w=w':=by
  have x1:(Ad (47::r)).extract 0 1=⟨#[47]⟩:=by rw [IJ];rfl
  have x2:(Ad (47::r)).extract 1 (r.length+1)=Ad r:=Ki (47::r) 1
  have hs:(Ad (47::r)).size=r.length+1:=Dj _
  generalize Ad (47::r)=s at *
  have d1:decide ((1:Int)≤(r.length:Int)+1)=true:=decide_eq_true (by omega)
  have i1:(1:Int)≤((r.length+1:Nat):Int):=by omega
  have HX2:=hid x2;have HS:=hid hs
  have x3:s.extract 1 s.size=Ad r:=by rw [hs];exact x2
  have i2:(1:Int)≤s.size:=by omega
  have d2:decide ((1:Int)≤(s.size:Int))=true:=decide_eq_true i2
  clear x2 hs d1 i1
  go_enter Tryz.func87,Tryz.ntmps87
  go_wp2
  go_ret2
  exact ⟨rfl,rfl⟩
theorem Ly (X:List UInt8) (hX:∀ b r,X=b::r→b≠47) (w:World):Calls Tryz.prog 87 #[.string (Ad X),.string ⟨#[47]⟩] w fun e w'=>e=.returned (.tuple #[.string (Ad X),.bool false])∧w=w':=by
  cases X with
  | nil=>
    have hs:(Ad []).size=0:=rfl
    generalize Ad []=s at *
    go_enter Tryz.func87,Tryz.ntmps87
    go_wp2
    go_ret2
    exact ⟨rfl,rfl⟩
  | cons b r=>
    have hb:¬ b=47:=hX b r rfl
    have x1:(Ad (b::r)).extract 0 1=⟨#[b]⟩:=by rw [IJ];rfl
    have hs:(Ad (b::r)).size=r.length+1:=Dj _
    generalize Ad (b::r)=s at *
    have i2:(1:Int)≤s.size:=ω
    have d2:decide ((1:Int)≤(s.size:Int))=true:=decide_eq_true i2
    have e1:((⟨#[b]⟩:ByteArray).toList == [47])=false:=by rw [LD];simpa using hb
    have e2:([b] == [(47:UInt8)])=false:=by simpa using hb
    have e3:=LD b
    clear hs hX
    go_enter Tryz.func87,Tryz.ntmps87
    go_wp2
    go_ret2
    exact ⟨rfl,rfl⟩
end
section
open Go.RowKit Go.Shelf
theorem PW {X:List UInt8} {R:List ByteArray} (h:(R=(Bs X).map Ad∧R.length≤6)∨(6<(Bs X).length∧∃ x∈R,(47:UInt8)∈x.data.toList)) :
    (R.all mayN=true∧DZ X=some R)∨(R.all mayN=false∧DZ X=none):=by
  rcases h with ⟨rfl,h6⟩ | ⟨h6,x,hx,hs⟩
  · rw [List.length_map] at h6
    cases ha:((Bs X).map Ad).all mayN with
    | true=>exact .inl ⟨rfl,if_pos ⟨h6,ha⟩⟩
    | false=>exact .inr ⟨rfl,if_neg (fun q=>by rw [ha] at q;cases q.2)⟩
  · refine .inr ⟨?_,if_neg (fun q=>ω)⟩
    rw [List.all_eq_false]
    exact ⟨x,hx,by rw [Mk hs];simp⟩
theorem Hp (X:List UInt8) (hX:X.length≤1000) (w:World):Calls Tryz.prog 76 #[σ X] w (JB w (Ag X)):=by
  by_cases h0:X=[47]
  · subst h0
    have HO:Hid (Ag [47]=some []):=if_pos rfl
    have hl:=Fv [47]
    go_enter Tryz.func76,Tryz.ntmps76
    go_wp2_with fail
    go_ret2
    exact Ka HO.out rfl (Below.refl _ _)
  · have e1:((Ad X).toList == [(47:UInt8)])=false:=by rw [Fv];simpa using h0
    have hp:Ag X=FM X:=if_neg h0
    cases X with
    | nil=>
      have HO:=hid (show Ag []=none from hp)
      have HC:=hid (fun w1=>Ly [] (fun b r h=>by cases h) w1)
      clear hp h0
      go_enter Tryz.func76,Tryz.ntmps76
      go_wp2_with (go_at_call 87;refine (HC.out _).mono ?_;rintro e w1 ⟨rfl,rfl⟩)
      go_ret2
      exact DE HO.out rfl (Below.refl _ _)
    | cons b r=>
      by_cases hb:b=47
      · subst hb
        have HO:=hid (show Ag (47::r)=DZ r from hp.trans (by simp [FM]))
        have HC:=hid (fun w1=>Ns r w1)
        have hr:r.length≤1000:=by simp at hX;omega
        have HS:=hid (fun w1=>Oi r hr w1)
        clear hp h0 hX hr
        go_enter Tryz.func76,Tryz.ntmps76
        go_wp2_with (first
          | (go_at_call 87;refine (HC.out _).mono ?_;rintro e w1 ⟨rfl,rfl⟩)
          | (go_at_call 88;fail))
        refine (HS.out w).mono ?_
        rintro e w1 ⟨a,c,R,rfl,o,bb,h⟩
        have h2:=PW h
        have O:=hid o;have B:=hid bb
        have HA:=fun w2 (q:HV w2 a c R)=>LX a c R w2 q
        clear o bb h
        rcases h2 with ⟨ha,hn⟩ | ⟨ha,hn⟩
        · rw [ha] at HA
          have HA:=hid HA;have HN:=hid hn
          clear ha hn
          go_wp2_with (go_at_call 89;refine (HA.out _ O.out.row).mono ?_;rintro e w2 ⟨rfl,b2⟩;have O2:=hid (O.out.mono b2);have B2:=hid (Cd B.out b2);clear b2)
          go_ret2
          exact Kb (by rw [HO.out,HN.out]) rfl O2.out B2.out
        · rw [ha] at HA
          have HA:=hid HA;have HN:=hid hn
          clear ha hn
          go_wp2_with (go_at_call 89;refine (HA.out _ O.out.row).mono ?_;rintro e w2 ⟨rfl,b2⟩;have B2:=hid (Cd B.out b2);clear b2)
          go_ret2
          exact DE (by rw [HO.out,HN.out]) rfl B2.out
      · have HO:=hid (show Ag (b::r)=none from hp.trans (by simp [FM,hb]))
        have HC:=hid (fun w1=>Ly (b::r) (fun b' r' h=>by cases h;exact hb) w1)
        clear hp h0 hb
        go_enter Tryz.func76,Tryz.ntmps76
        go_wp2_with (go_at_call 87;refine (HC.out _).mono ?_;rintro e w1 ⟨rfl,rfl⟩)
        go_ret2
        exact DE HO.out rfl (Below.refl _ _)
def TJ (w:World) (o:Option (List ByteArray)) (e:Ending) (w':World):Prop:=
  (∃ (L:List ByteArray) (x:ByteArray) (a:Option Addr) (c:Nat),o=some (L++[x])∧c=L.length∧e=.returned (.tuple #[.slice a L.length c,.string x,ν 0])∧HV w' a c L∧Below w.heap.size w w') ∨
  ((o=none∨o=some [])∧e=.returned (.tuple #[.slice none 0 0,.string ⟨#[]⟩,ν 15])∧Below w.heap.size w w')
theorem CC {α:Type} (L:List α):L=[]∨∃ A x,L=A++[x]:=by
  rcases List.eq_nil_or_concat L with h | ⟨A,x,h⟩
  · exact .inl h
  · exact .inr ⟨A,x,by rw [h];simp⟩
theorem NU (X:List UInt8) (hX:X.length≤1000) (w:World):Calls Tryz.prog 85 #[σ X] w (TJ w (Ag X)):=by
  have HP:=hid (Hp X hX w)
  cases ho:Ag X with
  | none=>
    rw [ho] at HP
    go_enter Tryz.func85,Tryz.ntmps85
    go_wp2_with (go_at_call 76;fail)
    refine (HP.out).mono ?_
    rintro e w1 ⟨a,c,rfl,o,b⟩
    have B:=hid b
    clear o b
    simp only [erO,Option.getD_none,List.length_nil]
    go_wp2_with fail
    go_ret3
    exact .inr ⟨.inl rfl,rfl,B.out⟩
  | some L=>
    rw [ho] at HP
    rcases CC L with rfl | ⟨A,x,rfl⟩
    · go_enter Tryz.func85,Tryz.ntmps85
      go_wp2_with (go_at_call 76;fail)
      refine (HP.out).mono ?_
      rintro e w1 ⟨a,c,rfl,o,b⟩
      have B:=hid b
      clear o b
      simp only [erO,Option.getD_some,List.length_nil]
      go_wp2_with fail
      go_ret3
      exact .inr ⟨.inr rfl,rfl,B.out⟩
    · go_enter Tryz.func85,Tryz.ntmps85
      go_wp2_with (go_at_call 76;fail)
      refine (HP.out).mono ?_
      rintro e w1 ⟨a,c,rfl,o,b⟩
      have O:=hid o;have B:=hid b
      clear o b
      simp only [erO,Option.getD_some]
      simp only [Option.getD_some] at O
      have hl:(A++[x]).length=A.length+1:=by simp
      rw [hl]
      have hrow:HV w1 a c (A++[x]):=O.out.row
      obtain ⟨g,off,rfl,hg,hc⟩:=EW hrow ω
      have hlc:A.length+1≤c:=by have:=hrow.2.1;rw [hl] at this;exact this
      have hc9:c≤9223372036854775807:=by have:=hrow.2.2.1;unfold maxLen at this;exact this
      have cx:=hc A.length ω
      have hx:(A++[x])[A.length]' ω=x:=by simp
      rw [hx] at cx
      have HROW:=hid hrow
      clear hc hx hrow hl
      have i1:(A.length:Int)<(A.length:Int)+1:=ω
      have i2:(A.length:Int)≤c:=ω
      have i3:(0:Int)≤A.length:=ω
      go_wp2_with fail
      go_quiet (fail)
      go_wp2_with fail
      go_ret3
      refine .inl ⟨A,x,some ⟨g,off,none⟩,A.length,rfl,rfl,rfl,?_,Gf B.out _⟩
      obtain ⟨h1,h2,h3,h4,h5⟩:=HROW.out
      refine ⟨by simp,Nat.le_refl _,by unfold maxLen;omega,(fun h=>by cases h),fun hn=>?_⟩
      obtain ⟨b',o',e',hb',hc'⟩:=h5 (by simp)
      refine ⟨b',o',e',hb',fun j u hu=>hc' j u ?_⟩
      rw [List.map_append,List.getElem?_append_left (by have:=(List.getElem?_eq_some_iff.1 hu).1;exact this)]
      exact hu
end
section
open Go.RowKit Go.Shelf
theorem Ld (X:List UInt8) {f i:Nat} (hf:f≤i) (hi:i<X.length):(X.drop f).take (i+1-f)=(X.drop f).take (i-f)++[X[i]]:=by
  rw [show i+1-f=(i-f)+1 by omega,List.take_succ_eq_append_getElem (by rw [List.length_drop];omega)]
  congr 2
  rw [List.getElem_drop];congr 1;omega
theorem Nx (X:List UInt8) {f i:Nat} (hf:f≤i) (hi:i<X.length):X.drop f=(X.drop f).take (i-f)++X[i]::X.drop (i+1):=by
  have h1:X.drop f=(X.drop f).take (i-f)++(X.drop f).drop (i-f):=(List.take_append_drop _ _).symm
  rw [List.drop_drop,show f+(i-f)=i by omega,List.drop_eq_getElem_cons hi] at h1
  exact h1
theorem GF {rest:List UInt8} {out:List (List UInt8)} {p:List UInt8} {r:List (List UInt8)} (hp:Bs rest=out++p::r) (h:mayN (Ad p)=false∨out.length=6):DZ rest=none:=by
  refine if_neg (fun q=>?_)
  rcases h with h | h
  · have:=List.all_eq_true.1 q.2 (Ad p) (List.mem_map.2 ⟨p,by rw [hp];simp,rfl⟩)
    rw [h] at this;cases this
  · have:=q.1
    rw [hp] at this;simp at this;omega
theorem MS {rest:List UInt8} {out:List (List UInt8)} (hp:Bs rest=out) (h6:out.length≤6) (h:(out.map Ad).all mayN=true):DZ rest=some (out.map Ad):=by
  subst hp;exact if_pos ⟨h6,h⟩
theorem NW (X:List UInt8) (hX:X.length≤1000) (hl:0<X.length) (hb:X[0]≠47) (w:World):Calls Tryz.prog 64 #[σ X] w fun e w'=>e=.returned (.tuple #[.slice none 0 0,ν 15])∧w=w':=by
  have e1:((Ad X).toList == [(47:UInt8)])=false:=by
    rw [Fv]
    refine beq_eq_false_iff_ne.2 (fun h=>hb ?_)
    subst h;rfl
  have hsz:=Dj X
  have e2:((X.length:Int) == 0)=false:=by rw [beq_eq_false_iff_ne];omega
  have hg:∀ h',(Ad X)[0]'h'=X[0]:=fun h'=>rfl
  have hbi:((X[0].toNat:Int) == 47)=false:=by
    rw [beq_eq_false_iff_ne];intro h;exact hb (UInt8.toNat_inj.1 (by rw [show X[0].toNat=47 by omega];rfl))
  clear hb
  go_enter Tryz.func64,Tryz.ntmps64
  go_wp2_with fail
  go_ret2
  exact ⟨rfl,rfl⟩
theorem Mn (X:List UInt8) (hX:X.length≤1000) (hne:X≠[47]) (hl:0<X.length) (hb:X[0]=47) (rest:List UInt8) (hrest:X.drop 1=rest) (w:World):Calls Tryz.prog 64 #[σ X] w (JB w (DZ rest)):=by
  have HREST:=hid hrest
  clear hrest
  have e1:((Ad X).toList == [(47:UInt8)])=false:=by rw [Fv];simpa using hne
  have hsz:=Dj X
  have e2:((X.length:Int) == 0)=false:=by rw [beq_eq_false_iff_ne];omega
  have hg:∀ h',(Ad X)[0]'h'=47:=fun h'=>hb
  clear hne hb
  go_enter Tryz.func64,Tryz.ntmps64
  go_wp2_with fail
  clear hg e1 e2
  go_loopw [4,5,6] (fun o f i wr=>∃ (j k:Nat) (out:List (List UInt8)) (a1:Option Addr) (c1 m:Nat),i=ν j∧f=ν k∧o=.slice a1 m c1∧out.length=m∧m≤6∧(out.map Ad).all mayN=true∧Mu wr w.heap.size a1 c1 (out.map Ad)∧Below w.heap.size w wr∧1≤k ∧
      ((k≤j∧j≤X.length∧Bs rest=out++Bs (X.drop k)∧(∀ x∈(X.drop k).take (j-k),x≠47))∨(j=X.length+1∧k=X.length+1∧Bs rest=out))) (fun _ _ i _=>X.length+1-(intOf i).toNat)
  case atStart=>exact ⟨1,1,[],none,0,0,by first | rfl | go_num,by first | rfl | go_num,rfl,rfl,ω,rfl,Own.nil _ _ _ _,Below.refl _ _,ω,.inl ⟨ω,ω,by rw [HREST.out];rfl,by simp⟩⟩
  case round=>
    obtain ⟨j,k,out,a1,c1,m,rfl,rfl,rfl,hm,hm6,hall,ho,hb,hk1,hor⟩:=hrel
    have HM:=hid hm;have HALL:=hid hall;have HO:=hid ho;have HB:=hid hb
    clear hm hall ho hb
    rcases hor with ⟨hkj,hjl,hpc,hno⟩ | ⟨hj,hk,hpc⟩
    · have HPC:=hid hpc;have HNO:=hid hno
      have ij:(j:Int)≤X.length:=ω
      have e3:IntKind.i64.wrap ((j:Int)+1)=j+1:=IntWalk.i64_in _ ω
      clear hpc hno
      by_cases hlt:j<X.length
      · have ijl:(j:Int)<X.length:=ω
        have dj:decide ((j:Int)<(X.length:Int))=true:=decide_eq_true ijl
        have hts:=Ld X hkj hlt
        have hds:=Nx X hkj hlt
        by_cases h47:X[j]=47
        · have hpa:=Fy ((X.drop k).take (j-k)) (X.drop (j+1)) HNO.out
          rw [h47] at hds
          rw [← hds] at hpa
          have HPA:=hid hpa
          have hgj:∀ h',(Ad X)[j]'h'=47:=fun h'=>h47
          have hext:(Ad X).extract k j=Ad ((X.drop k).take (j-k)):=Hw (Ad X) k j
          clear hpa hts hds h47
          have HMN:=fun w1=>JH (Ad ((X.drop k).take (j-k))) w1
          have HPC2:=HPC.out
          rw [HPA.out] at HPC2
          generalize hpp:(X.drop k).take (j-k)=p at *
          have ikj:(k:Int)≤j:=ω
          cases hmy:mayN (Ad p) with
          | false=>
            rw [hmy] at HMN
            have HN:=hid (GF HPC2 (.inl hmy))
            have HMN:=hid HMN
            clear hmy HPC2 hpp
            go_wp2_with (go_at_call 23;refine (HMN.out _).mono ?_;rintro e w1 ⟨rfl,rfl⟩)
            go_ret2
            exact DE HN.out rfl HB.out
          | true=>
            rw [hmy] at HMN
            have HMN:=hid HMN
            by_cases h6:m=6
            · have HN:=hid (GF HPC2 (.inr (by rw [HM.out];exact h6)))
              subst h6
              clear hmy HPC2 hpp
              go_wp2_with (go_at_call 23;refine (HMN.out _).mono ?_;rintro e w1 ⟨rfl,rfl⟩)
              go_ret2
              exact DE HN.out rfl HB.out
            · have em:((m:Int) == 6)=false:=by rw [beq_eq_false_iff_ne];omega
              have HALL2:Hid (((out++[p]).map Ad).all mayN=true):=hid (by rw [List.map_append,List.all_append,HALL.out];simp [hmy])
              have HPC3:=hid HPC2
              have R1:=hid (KQ (GX (W:=wr) rfl 9 [σ p]) 1 1 rfl ω)
              have HO1:Own wr w.heap.size 9 1 a1 m c1 ((out.map Ad).map Lo):=by have:=HO.out;unfold Mu at this;rw [List.length_map,HM.out] at this;exact this
              have HO2:=hid HO1
              have hm5:m≤5:=ω
              clear hmy HPC2 hpp HO1
              go_wp2_with (first
                | (go_at_call 23;refine (HMN.out _).mono ?_;rintro e w1 ⟨rfl,rfl⟩)
                | (at_builtin;(refine Lh rfl (.tmp 46) (.tmp 51) rfl ES w.heap.size rfl rfl (HO2.out.alloc (.cells #[.string (Ad p)] 9)) R1.out (by intro u hu;simp only [List.mem_cons,List.not_mem_nil,or_false] at hu;subst hu;rfl) ω ω (Nat.le_trans HB.out.size (by simp)) ?_);intro a2 c2 w2 o2 g2 b2;have O2:=hid o2;have B2:=hid ((HB.out.alloc HB.out.size (.cells #[.string (Ad p)] 9)).trans b2);clear o2 g2 b2))
              go_roundw
              case rel=>
                refine ⟨j+1,j+1,out++[p],a2,c2,m+1,by go_num,by go_num,rfl,by rw [List.length_append,HM.out];rfl,ω,HALL2.out,?_,B2.out,ω,.inl ⟨ω,ω,by rw [HPC3.out,List.append_assoc];rfl,by simp⟩⟩
                have:=O2.out
                unfold Mu
                rw [List.length_map,List.length_append,HM.out,List.map_append,List.map_append]
                exact this
              case measure=>simp [intOf]<;>omega
        · obtain ⟨y,hy⟩:∃ y,y=X[j]:=⟨_,rfl⟩
          have hgj:∀ h',(Ad X)[j]'h'=y:=fun h'=>hy.symm
          have hbi:((y.toNat:Int) == 47)=false:=by
            rw [beq_eq_false_iff_ne];intro h;exact h47 (by rw [← hy];exact UInt8.toNat_inj.1 (by rw [show y.toNat=47 by omega];rfl))
          have HNO2:Hid (∀ x∈(X.drop k).take (j+1-k),x≠47):=hid (by
            rw [hts]
            intro x hx
            rcases List.mem_append.1 hx with h | h
            · exact HNO.out x h
            · rw [List.mem_singleton.1 h];exact h47)
          clear hts hds h47 hy
          go_wp2_with fail
          go_roundw
          case rel=>exact ⟨j+1,k,out,a1,c1,m,by go_num,rfl,rfl,HM.out,hm6,HALL.out,HO.out,HB.out,hk1,.inl ⟨ω,ω,HPC.out,HNO2.out⟩⟩
          case measure=>simp [intOf];omega
      · obtain rfl:j=X.length:=ω
        have dj:decide ((X.length:Int)<(X.length:Int))=false:=decide_eq_false ω
        have hall0:(X.drop k).take (X.length-k)=X.drop k:=List.take_of_length_le (by rw [List.length_drop];omega)
        have hpa:Bs (X.drop k)=[(X.drop k).take (X.length-k)]:=by rw [hall0];exact EE (by have:=HNO.out;rw [hall0] at this;exact this)
        have hext:(Ad X).extract k X.length=Ad ((X.drop k).take (X.length-k)):=Hw (Ad X) k X.length
        have HPA:=hid hpa
        clear hpa hall0
        have HMN:=fun w1=>JH (Ad ((X.drop k).take (X.length-k))) w1
        have HPC2:=HPC.out
        rw [HPA.out] at HPC2
        generalize hpp:(X.drop k).take (X.length-k)=p at *
        have ikj:(k:Int)≤X.length:=ω
        cases hmy:mayN (Ad p) with
        | false=>
          rw [hmy] at HMN
          have HN:=hid (GF HPC2 (.inl hmy))
          have HMN:=hid HMN
          clear hmy HPC2 hpp
          go_wp2_with (go_at_call 23;refine (HMN.out _).mono ?_;rintro e w1 ⟨rfl,rfl⟩)
          go_ret2
          exact DE HN.out rfl HB.out
        | true=>
          rw [hmy] at HMN
          have HMN:=hid HMN
          by_cases h6:m=6
          · have HN:=hid (GF HPC2 (.inr (by rw [HM.out];exact h6)))
            subst h6
            clear hmy HPC2 hpp
            go_wp2_with (go_at_call 23;refine (HMN.out _).mono ?_;rintro e w1 ⟨rfl,rfl⟩)
            go_ret2
            exact DE HN.out rfl HB.out
          · have em:((m:Int) == 6)=false:=by rw [beq_eq_false_iff_ne];omega
            have HALL2:Hid (((out++[p]).map Ad).all mayN=true):=hid (by rw [List.map_append,List.all_append,HALL.out];simp [hmy])
            have HPC3:=hid HPC2
            have R1:=hid (KQ (GX (W:=wr) rfl 9 [σ p]) 1 1 rfl ω)
            have HO1:Own wr w.heap.size 9 1 a1 m c1 ((out.map Ad).map Lo):=by have:=HO.out;unfold Mu at this;rw [List.length_map,HM.out] at this;exact this
            have HO2:=hid HO1
            have hm5:m≤5:=ω
            clear hmy HPC2 hpp HO1
            go_wp2_with (first
              | (go_at_call 23;refine (HMN.out _).mono ?_;rintro e w1 ⟨rfl,rfl⟩)
              | (at_builtin;(refine Lh rfl (.tmp 46) (.tmp 51) rfl ES w.heap.size rfl rfl (HO2.out.alloc (.cells #[.string (Ad p)] 9)) R1.out (by intro u hu;simp only [List.mem_cons,List.not_mem_nil,or_false] at hu;subst hu;rfl) ω ω (Nat.le_trans HB.out.size (by simp)) ?_);intro a2 c2 w2 o2 g2 b2;have O2:=hid o2;have B2:=hid ((HB.out.alloc HB.out.size (.cells #[.string (Ad p)] 9)).trans b2);clear o2 g2 b2))
            go_roundw
            case rel=>
              refine ⟨X.length+1,X.length+1,out++[p],a2,c2,m+1,by go_num,by go_num,rfl,by rw [List.length_append,HM.out];rfl,ω,HALL2.out,?_,B2.out,ω,.inr ⟨rfl,rfl,HPC3.out⟩⟩
              have:=O2.out
              unfold Mu
              rw [List.length_map,List.length_append,HM.out,List.map_append,List.map_append]
              exact this
            case measure=>simp [intOf]<;>omega
    · have dj:decide ((j:Int)≤(X.length:Int))=false:=decide_eq_false ω
      have ij:¬ (j:Int)≤X.length:=ω
      have HN:=hid (MS hpc (by rw [HM.out];exact hm6) HALL.out)
      have hml:m=(out.map Ad).length:=by rw [List.length_map];exact HM.out.symm
      have HML:=hid hml
      clear hpc hj hk hml
      go_wp2_with fail
      go_ret2
      exact Kb HN.out (by rw [HML.out];rfl) HO.out HB.out
theorem Fg (X:List UInt8) (hX:X.length≤1000) (w:World):Calls Tryz.prog 64 #[σ X] w (JB w (Ag X)):=by
  by_cases h0:X=[47]
  · subst h0
    have HO:Hid (Ag [47]=some []):=if_pos rfl
    have hl:=Fv [47]
    go_enter Tryz.func64,Tryz.ntmps64
    go_wp2_with fail
    go_ret2
    exact Ka HO.out rfl (Below.refl _ _)
  have hp:Ag X=FM X:=if_neg h0
  cases X with
  | nil=>
    have e1:((Ad []).toList == [(47:UInt8)])=false:=by rw [Fv];rfl
    have hsz:=Dj []
    have HO:=hid (show Ag []=none from hp)
    clear hp h0
    go_enter Tryz.func64,Tryz.ntmps64
    go_wp2_with fail
    go_ret2
    exact DE HO.out rfl (Below.refl _ _)
  | cons b r=>
    by_cases hb:b=47
    · rw [hp,show FM (b::r)=DZ r by simp [FM,hb]]
      exact Mn (b::r) hX h0 (by simp) hb r rfl w
    · rw [hp,show FM (b::r)=none by simp [FM,hb]]
      exact (NW (b::r) hX (by simp) hb w).mono fun e w' h=>DE rfl h.1 (by rw [h.2];exact Below.refl _ _)
end
section
def Sz (p M h:Nat) (c:UInt8):Nat:=((h ^^^ c.toNat)*p) % M
def Tq (s p M:Nat) (l:List UInt8):Nat:=l.foldl (Sz p M) s
abbrev Ts:Nat→UInt8→Nat:=Sz 16777619 4294967296
abbrev Tr:List UInt8→Nat:=Tq 2166136261 16777619 4294967296
def Up (l:List UInt8):Nat:=Tr l / 268435456
end
section
end
section
open Go.RowKit Go.Shelf
def Uy (X:List UInt8):List UInt8:=X.take 120
end
section
open Go.RowKit Go.Shelf
end
section
open Go.RowKit Go.Shelf
theorem PS {w:World} {ad:Addr} {c:Nat} {A B:List ByteArray} (h:HV w (some ad) c (A++B)):HV w (some ad) c A:=by
  obtain ⟨h1,h2,h3,h4,h5⟩:=h
  have hl:(A++B).length=A.length+B.length:=List.length_append
  refine ⟨by simp,ω,h3,(fun h=>by cases h),fun hn=>?_⟩
  obtain ⟨b',o',e',hb',hc'⟩:=h5 ω
  refine ⟨b',o',e',hb',fun j u hu=>hc' j u ?_⟩
  rw [List.map_append,List.getElem?_append_left (by have:=(List.getElem?_eq_some_iff.1 hu).1;exact this)]
  exact hu
theorem MT (X:List UInt8) (hX:X.length≤1000) (ho:Ag X=none∨Ag X=some []) (w:World) :
    Calls Tryz.prog 85 #[σ X] w fun e w'=>e=.returned (.tuple #[.slice none 0 0,.string ⟨#[]⟩,ν 15])∧Below w.heap.size w w':=
  (NU X hX w).mono fun e w' h=>by
    rcases h with ⟨L,y,a,c,h1,h2,h3,h4,h5⟩ | ⟨h1,h2,h3⟩
    · rcases ho with ho | ho
      · rw [ho] at h1;cases h1
      · rw [ho] at h1;injection h1 with h1;exact absurd h1 (by simp)
    · exact ⟨h2,h3⟩
end
section
open Go.RowKit Go.Shelf
def Da:Option (List ByteArray)→Option (List ByteArray)→Bool
  | some l,some m=>decide (m.length≤l.length)&&decide (l.take m.length=m)
  | _,_=>false
theorem Lc (a b:ByteArray):(a.toList == b.toList)=decide (a=b):=EH a b
theorem Ii {l m:List ByteArray} {k:Nat} (h1:k<m.length) (h2:m.length≤l.length) (h:l[k]' ω≠m[k]):l.take m.length≠m:=by
  intro e
  apply h
  have h3:(l.take m.length)[k]? = m[k]?:=by rw [e]
  rw [List.getElem?_take,if_pos h1,List.getElem?_eq_getElem ω,List.getElem?_eq_getElem h1] at h3
  exact Option.some.inj h3
theorem Jc {l m:List ByteArray} (h2:m.length≤l.length) (h:∀ k (h1:k<m.length),l[k]' ω=m[k]):l.take m.length=m:=by
  apply List.ext_getElem
  · rw [List.length_take];omega
  · intro i h3 h4
    rw [List.getElem_take];exact h i h4
theorem NA (l m:List ByteArray) (a b:Option Addr) (c d:Nat) (w:World) (hl:l.length=m.length) (ha:HV w a c l) (hb:HV w b d m) :
    Calls Tryz.prog 90 #[.slice a m.length c,.slice b m.length d] w fun e w'=>e=.returned (.bool (decide (l.take m.length=m)))∧Below w.heap.size w w':=by
  have HA:=hid ha;have HB:=hid hb;have HLL:=hid hl
  have hl9:=KP hb
  clear ha hb
  go_enter Tryz.func90,Tryz.ntmps90
  clear hl
  go_wp2_with fail
  go_loopw [13] (fun i wr=>∃ k:Nat,k≤m.length∧i=ν k∧(∀ j (h:j<k) (h1:j<m.length) (h2:j<l.length),l[j]=m[j])∧Below w.heap.size w wr) (fun i _=>m.length-(intOf i).toNat)
  case atStart=>exact ⟨0,ω,rfl,(fun j h=>absurd h ω),Below.refl _ _⟩
  case round=>
    obtain ⟨k,hk,rfl,heq,hbl⟩:=hrel
    have HEQ:=hid heq
    clear heq
    by_cases hk16:k<m.length
    · have hkl:k<l.length:=by rw [HLL.out];exact hk16
      obtain ⟨ba,oa,rfl,hba,hca⟩:=EW (HA.out.mono hbl) ω
      obtain ⟨bb,ob,rfl,hbb,hcb⟩:=EW (HB.out.mono hbl) ω
      have a0:=hca k hkl
      have b0:=hcb k hk16
      have ik:(k:Int)<m.length:=ω
      have dk:decide ((k:Int)<(m.length:Int))=true:=decide_eq_true ik
      have hne:=fun (h:l[k]≠m[k])=>Ii (l:=l) (m:=m) hk16 (by have:=HLL.out;omega) h
      have hst:=Lc l[k] m[k]
      have hxe:l[k]=m[k]→∀ j (h:j<k+1) (h1:j<m.length) (h2:j<l.length),l[j]=m[j]:=fun he j h h1 h2=>by
        rcases (ω:j<k∨j=k) with g | rfl
        · exact HEQ.out j g h1 h2
        · exact he
      have HNE:=hid hne;have HXE:=hid hxe
      clear hca hcb hne hxe
      generalize l[k]=x at *
      generalize m[k]=y at *
      have HBL:=hid hbl
      clear hbl
      by_cases hxy:x=y
      · rw [decide_eq_true hxy] at hst
        have HX:=hid (HXE.out hxy)
        clear hxy
        go_wp2
        go_quiet (fail)
        go_wp2
        go_roundw
        case rel=>exact ⟨k+1,ω,by go_num,HX.out,Gf HBL.out _⟩
        case measure=>simp [intOf];omega
      · rw [decide_eq_false hxy] at hst
        have HN:=hid (HNE.out hxy)
        clear hxy
        go_wp2
        go_quiet (fail)
        go_wp2
        go_ret
        exact ⟨CA (decide_eq_false HN.out).symm,Gf HBL.out _⟩
    · obtain rfl:k=m.length:=ω
      have dk:decide ((m.length:Int)<(m.length:Int))=false:=decide_eq_false ω
      have HT:=hid (Jc (l:=l) (m:=m) (by have:=HLL.out;omega) (fun j h1=>HEQ.out j h1 h1 (by have:=HLL.out;omega)))
      go_wp2_with fail
      go_ret
      exact ⟨CA (decide_eq_true HT.out).symm,hbl⟩
theorem Lq (l:List ByteArray) (n:Nat):(l.take n).take n=l.take n:=by rw [List.take_take,Nat.min_self]
theorem MH (X Y:List UInt8) (hX:X.length≤1000) (hY:Y.length≤1000) (w:World):Calls Tryz.prog 78 #[σ X,σ Y] w fun e w'=>e=.returned (.bool (Da (Ag X) (Ag Y)))∧Below w.heap.size w w':=by
  have H1:=fun w1=>Hp X hX w1
  have H2:=fun w1=>Hp Y hY w1
  unfold JB at H1 H2
  clear hX hY
  generalize Ag X=o1 at *
  generalize Ag Y=o2 at *
  cases o1 with
  | none=>
    simp only [erO,Option.getD_none,List.length_nil] at H1
    have HR:Hid (Da none o2=false):=by cases o2<;>rfl
    generalize erO o2=er2 at *
    generalize o2.getD []=L2 at *
    have H1:=hid H1;have H2:=hid H2
    go_enter Tryz.func78,Tryz.ntmps78
    go_wp2_with (go_at_call 76;fail)
    refine (H1.out _).mono ?_
    rintro e w1 ⟨a1,c1,rfl,q1,b1⟩
    have B1:=hid b1
    clear b1 q1
    go_wp2_with (go_at_call 76;fail)
    refine (H2.out _).mono ?_
    rintro e w2 ⟨a2,c2,rfl,q2,b2⟩
    have B2:=hid (Cd B1.out b2)
    clear b2 q2
    go_wp2_with fail
    go_ret
    exact ⟨CA HR.out.symm,B2.out⟩
  | some l=>
    simp only [erO,Option.getD_some] at H1
    cases o2 with
    | none=>
      simp only [erO,Option.getD_none,List.length_nil] at H2
      have H1:=hid H1;have H2:=hid H2
      go_enter Tryz.func78,Tryz.ntmps78
      go_wp2_with (go_at_call 76;fail)
      refine (H1.out _).mono ?_
      rintro e w1 ⟨a1,c1,rfl,q1,b1⟩
      have B1:=hid b1
      clear b1 q1
      go_wp2_with (go_at_call 76;fail)
      refine (H2.out _).mono ?_
      rintro e w2 ⟨a2,c2,rfl,q2,b2⟩
      have B2:=hid (Cd B1.out b2)
      clear b2 q2
      go_wp2_with fail
      go_ret
      exact ⟨rfl,B2.out⟩
    | some m=>
      simp only [erO,Option.getD_some] at H2
      have H1:=hid H1;have H2:=hid H2
      by_cases hml:m.length≤l.length
      · have hr:Da (some l) (some m)=decide (l.take m.length=m):=by show (decide _&&_)=_;rw [decide_eq_true hml];rfl
        have HR:=hid hr
        have i1:(m.length:Int)≤l.length:=ω
        have d1:decide ((l.length:Int)<(m.length:Int))=false:=decide_eq_false ω
        have htl:(l.take m.length).length=m.length:=by rw [List.length_take];omega
        have HTL:=hid htl
        clear hr htl
        go_enter Tryz.func78,Tryz.ntmps78
        go_wp2_with (go_at_call 76;fail)
        refine (H1.out _).mono ?_
        rintro e w1 ⟨a1,c1,rfl,q1,b1⟩
        have B1:=hid b1;have Q1:=hid q1.row
        clear b1 q1
        go_wp2_with (go_at_call 76;fail)
        refine (H2.out _).mono ?_
        rintro e w2 ⟨a2,c2,rfl,q2,b2⟩
        have B2:=hid (Cd B1.out b2)
        have r1:HV w2 a1 c1 l:=Q1.out.mono b2
        have R2:=hid (show HV w2 a2 c2 m from q2.row)
        have hlc:l.length≤c1:=r1.2.1
        have i2:(m.length:Int)≤c1:=ω
        have r1':HV w2 a1 c1 (l.take m.length++l.drop m.length):=by rw [List.take_append_drop];exact r1
        have r3:HV w2 a1 c1 (l.take m.length):=by
          cases a1 with
          | some ad=>exact PS r1'
          | none=>
            have h0:=r1.2.2.2.1 rfl
            have:l.length=0:=by have:=r1.2.1;omega
            have hl0:l=[]:=List.eq_nil_of_length_eq_zero this
            subst hl0
            simp only [List.take_nil]
            exact r1
        have HE:=NA (l.take m.length) m a1 a2 c1 c2 w2 HTL.out r3 R2.out
        rw [Lq] at HE
        have HE:=hid HE
        clear b2 q2 r1 r1' r3
        go_wp2_with (go_at_call 90;fail)
        refine (HE.out).mono ?_
        rintro e w3 ⟨rfl,b3⟩
        have B3:=hid (Cd B2.out b3)
        clear b3
        generalize decide (l.take m.length=m)=v at *
        go_wp2_with fail
        go_ret
        exact ⟨CA HR.out.symm,B3.out⟩
      · have hr:Da (some l) (some m)=false:=by show (decide _&&_)=_;rw [decide_eq_false hml];rfl
        have HR:=hid hr
        have i1:(l.length:Int)<m.length:=ω
        have d1:decide ((l.length:Int)<(m.length:Int))=true:=decide_eq_true ω
        clear hr
        go_enter Tryz.func78,Tryz.ntmps78
        go_wp2_with (go_at_call 76;fail)
        refine (H1.out _).mono ?_
        rintro e w1 ⟨a1,c1,rfl,q1,b1⟩
        have B1:=hid b1
        clear b1 q1
        go_wp2_with (go_at_call 76;fail)
        refine (H2.out _).mono ?_
        rintro e w2 ⟨a2,c2,rfl,q2,b2⟩
        have B2:=hid (Cd B1.out b2)
        clear b2 q2
        go_wp2_with fail
        go_ret
        exact ⟨CA HR.out.symm,B2.out⟩
end
section
open Go.RowKit Go.Shelf
theorem NG (o:Option (List ByteArray)):Da none o=false:=by cases o<;>rfl
theorem Li (X Y:List UInt8) (hX:X.length≤1000) (hY:Y.length≤1000) (w:World):Calls Tryz.prog 68 #[σ X,σ Y] w fun e w'=>e=.returned (.bool (Da (Ag X) (Ag Y)))∧Below w.heap.size w w':=by
  have H1:=fun w1=>Fg X hX w1
  have H2:=fun w1=>Fg Y hY w1
  unfold JB at H1 H2
  clear hX hY
  generalize Ag X=o1 at *
  generalize Ag Y=o2 at *
  cases o1 with
  | none=>
    simp only [erO,Option.getD_none,List.length_nil] at H1
    have HR:=hid (NG o2)
    generalize erO o2=er2 at *
    generalize o2.getD []=L2 at *
    have H1:=hid H1;have H2:=hid H2
    go_enter Tryz.func68,Tryz.ntmps68
    go_wp2_with (go_at_call 64;fail)
    refine (H1.out _).mono ?_
    rintro e w1 ⟨a1,c1,rfl,q1,b1⟩
    have B1:=hid b1
    clear b1 q1
    go_wp2_with (go_at_call 64;fail)
    refine (H2.out _).mono ?_
    rintro e w2 ⟨a2,c2,rfl,q2,b2⟩
    have B2:=hid (Cd B1.out b2)
    clear b2 q2
    go_wp2_with fail
    go_ret
    exact ⟨CA HR.out.symm,B2.out⟩
  | some l=>
    simp only [erO,Option.getD_some] at H1
    cases o2 with
    | none=>
      simp only [erO,Option.getD_none,List.length_nil] at H2
      have H1:=hid H1;have H2:=hid H2
      go_enter Tryz.func68,Tryz.ntmps68
      go_wp2_with (go_at_call 64;fail)
      refine (H1.out _).mono ?_
      rintro e w1 ⟨a1,c1,rfl,q1,b1⟩
      have B1:=hid b1
      clear b1 q1
      go_wp2_with (go_at_call 64;fail)
      refine (H2.out _).mono ?_
      rintro e w2 ⟨a2,c2,rfl,q2,b2⟩
      have B2:=hid (Cd B1.out b2)
      clear b2 q2
      go_wp2_with fail
      go_ret
      exact ⟨rfl,B2.out⟩
    | some m=>
      simp only [erO,Option.getD_some] at H2
      have H1:=hid H1;have H2:=hid H2
      by_cases hml:m.length≤l.length
      · have hr:Da (some l) (some m)=decide (l.take m.length=m):=by show (decide _&&_)=_;rw [decide_eq_true hml];rfl
        have HR:=hid hr
        have i1:(m.length:Int)≤l.length:=ω
        have d1:decide ((l.length:Int)<(m.length:Int))=false:=decide_eq_false ω
        clear hr
        go_enter Tryz.func68,Tryz.ntmps68
        go_wp2_with (go_at_call 64;fail)
        refine (H1.out _).mono ?_
        rintro e w1 ⟨a1,c1,rfl,q1,b1⟩
        have B1:=hid b1;have Q1:=hid q1.row
        clear b1 q1
        go_wp2_with (go_at_call 64;fail)
        refine (H2.out _).mono ?_
        rintro e w2 ⟨a2,c2,rfl,q2,b2⟩
        have B2:=hid (Cd B1.out b2)
        have HA:=hid (show HV w2 a1 c1 l from Q1.out.mono b2)
        have HB:=hid (show HV w2 a2 c2 m from q2.row)
        have hm9:=KP HB.out
        clear b2 q2
        go_wp2_with fail
        go_loopw [9] (fun i wr=>∃ k:Nat,k≤m.length∧i=ν k∧(∀ j (h:j<k) (h1:j<m.length) (h2:j<l.length),l[j]=m[j])∧Below w2.heap.size w2 wr) (fun i _=>m.length-(intOf i).toNat)
        case atStart=>exact ⟨0,ω,rfl,(fun j h=>absurd h ω),Below.refl _ _⟩
        case round=>
          obtain ⟨k,hk,rfl,heq,hbl⟩:=hrel
          have HEQ:=hid heq
          clear heq
          by_cases hk16:k<m.length
          · have hkl:k<l.length:=ω
            obtain ⟨ba,oa,rfl,hba,hca⟩:=EW (HA.out.mono hbl) ω
            obtain ⟨bb,ob,rfl,hbb,hcb⟩:=EW (HB.out.mono hbl) ω
            have a0:=hca k hkl
            have b0:=hcb k hk16
            have ik:(k:Int)<m.length:=ω
            have ikl:(k:Int)<l.length:=ω
            have dk:decide ((k:Int)<(m.length:Int))=true:=decide_eq_true ik
            have hne:=fun (h:l[k]≠m[k])=>Ii (l:=l) (m:=m) hk16 hml h
            have hst:=Lc l[k] m[k]
            have hxe:l[k]=m[k]→∀ j (h:j<k+1) (h1:j<m.length) (h2:j<l.length),l[j]=m[j]:=fun he j h h1 h2=>by
              rcases (ω:j<k∨j=k) with g | rfl
              · exact HEQ.out j g h1 h2
              · exact he
            have HNE:=hid hne;have HXE:=hid hxe
            clear hca hcb hne hxe
            generalize l[k]=x at *
            generalize m[k]=y at *
            have HBL:=hid hbl
            clear hbl
            by_cases hxy:x=y
            · rw [decide_eq_true hxy] at hst
              have HX:=hid (HXE.out hxy)
              clear hxy
              go_wp2
              go_quiet (fail)
              go_wp2
              go_roundw
              case rel=>exact ⟨k+1,ω,by go_num,HX.out,Gf HBL.out _⟩
              case measure=>simp [intOf];omega
            · rw [decide_eq_false hxy] at hst
              have HN:=hid (HNE.out hxy)
              clear hxy
              go_wp2
              go_quiet (fail)
              go_wp2
              go_ret
              exact ⟨CA (by rw [HR.out];exact (decide_eq_false HN.out).symm),Cd B2.out (Gf HBL.out _)⟩
          · obtain rfl:k=m.length:=ω
            have dk:decide ((m.length:Int)<(m.length:Int))=false:=decide_eq_false ω
            have HT:=hid (Jc (l:=l) (m:=m) hml (fun j h1=>HEQ.out j h1 h1 ω))
            go_wp2_with fail
            go_ret
            exact ⟨CA (by rw [HR.out];exact (decide_eq_true HT.out).symm),Cd B2.out hbl⟩
      · have hr:Da (some l) (some m)=false:=by show (decide _&&_)=_;rw [decide_eq_false hml];rfl
        have HR:=hid hr
        have i1:(l.length:Int)<m.length:=ω
        have d1:decide ((l.length:Int)<(m.length:Int))=true:=decide_eq_true ω
        clear hr
        go_enter Tryz.func68,Tryz.ntmps68
        go_wp2_with (go_at_call 64;fail)
        refine (H1.out _).mono ?_
        rintro e w1 ⟨a1,c1,rfl,q1,b1⟩
        have B1:=hid b1
        clear b1 q1
        go_wp2_with (go_at_call 64;fail)
        refine (H2.out _).mono ?_
        rintro e w2 ⟨a2,c2,rfl,q2,b2⟩
        have B2:=hid (Cd B1.out b2)
        clear b2 q2
        go_wp2_with fail
        go_ret
        exact ⟨CA HR.out.symm,B2.out⟩
end
section
structure Kn (N:Nat) (l:List (Nat×Value)) (a:Act):Prop where
  size:a.tmps.size=N
  known:∀ x∈l,a.tmps[x.1]? = some x.2
  defs:a.defers=[]
theorem Kn.eval {N:Nat} {l:List (Nat×Value)} {a:Act} (h:Kn N l a) {k:Nat} {v:Value} (hm:(k,v)∈l):a.eval (.tmp k)=v:=by
  have:=h.known _ hm
  show a.tmps.getD k undef=v
  rw [Array.getD_eq_getD_getElem?,this];rfl
theorem Kn.put {N:Nat} {l:List (Nat×Value)} {a:Act} (h:Kn N l a) {d:Nat} (hd:d<N) (hf:∀ x∈l,x.1≠d) (v:Value):Kn N ((d,v)::l) (a.put (some d) v):=by
  refine ⟨by show (a.tmps.setIfInBounds d v).size=N;rw [Array.size_setIfInBounds];exact h.size,fun x hx=>?_,h.defs⟩
  show (a.tmps.setIfInBounds d v)[x.1]? = some x.2
  rw [Array.getElem?_setIfInBounds]
  rcases List.mem_cons.1 hx with rfl | hx
  · rw [if_pos rfl,if_pos (by rw [h.size];exact hd)]
  · rw [if_neg (fun e=>hf x hx e.symm)];exact h.known x hx
theorem Kn.sub {N:Nat} {l l':List (Nat×Value)} {a:Act} (h:Kn N l a) (hs:∀ x∈l',x∈l):Kn N l' a:=⟨h.size,fun x hx=>h.known x (hs x hx),h.defs⟩
theorem fr {l:List (Nat×Value)} {d:Nat} (h:l.all (fun x=>!(x.1 == d))=true):∀ x∈l,x.1≠d:=fun x hx e=>by
  have:=List.all_eq_true.1 h x hx
  simp [e] at this
theorem Kn.subs {N:Nat} {l l':List (Nat×Value)} {a:Act} (h:Kn N l a) (hs:(l'.map fun x=>l.find? fun y=>y.1 == x.1)=l'.map some):Kn N l' a:=h.sub fun x hx=>by
  have:some x∈l'.map some:=List.mem_map.2 ⟨x,hx,rfl⟩
  rw [← hs] at this
  obtain ⟨i,_,hi⟩:=List.mem_map.1 this
  exact List.mem_of_find?_eq_some hi
theorem Kn.yields {N:Nat} {l:List (Nat×Value)} {a:Act} (h:Kn N l a) {ops:Array Oper} {g prev:Nat} {b:Bool} (hg:(ops[g]?).bind (·.dst)=some prev) (hm:(prev,.bool b)∈l):yielded ops a.tmps g=some b:=by
  unfold yielded
  rw [hg,Option.bind_some]
  have:=h.known _ hm
  show (match a.tmps[prev]? with | some (.bool b)=>some b | _=>none)=some b
  rw [this]
theorem Qe {o:Oper} {y:Nat→Option Bool} {g:Nat} {want b:Bool} (hg:o.guard=some (g,want)) (hy:y g=some b):Region.wanted o y=(b == want):=by
  unfold Region.wanted
  rw [hg]
  simp only [hy]
  cases b<;>cases want<;>rfl
theorem OY {P:Program} {ops:Array Oper} {Q:Exit→Act→World→Prop} {rest:List Oper} {o:Oper} {a:Act} {w w':World} {N:Nat} {l:List (Nat×Value)} (h:Kn N l a) (hw:Region.wanted o (yielded ops a.tmps)=true) {d:Nat} (hd:o.dst=some d) (hdN:d<N) (hf:∀ x∈l,x.1≠d) (v:Value)
    (hr:(execOp a.eval o).run P w=.ok (.value v) w') (k:∀ a',Kn N ((d,v)::l) a'→wpList P ops Q rest a' w'):wpList P ops Q (o::rest) a w:=by
  refine wpList_step fun K hK=>?_
  rw [if_pos hw]
  unfold Oper.wp
  rw [hr,Oper.upon_value,hd]
  exact hK _ _ (k _ (h.put hdN hf v))
theorem RJ {P:Program} {ops:Array Oper} {Q:Exit→Act→World→Prop} {rest:List Oper} {o:Oper} {a:Act} {w:World} {N:Nat} {l:List (Nat×Value)} (h:Kn N l a) (hw:Region.wanted o (yielded ops a.tmps)=false) {d:Nat} (hd:o.dst=some d) (hdN:d<N) (hf:∀ x∈l,x.1≠d)
    (k:∀ a',Kn N ((d,undef)::l) a'→wpList P ops Q rest a' w):wpList P ops Q (o::rest) a w:=by
  refine wpList_skip hw ?_
  rw [hd]
  exact k _ (h.put hdN hf undef)
theorem Ac {o:Oper} {y:Nat→Option Bool} (hg:o.guard=none):Region.wanted o y=true:=by unfold Region.wanted;rw [hg]
structure Cmp (P:Program) (w:World) (T:TypeId) (f:Nat) (Tf:TypeId) (op:BinOp) (gp gq:Nat) (c:Bool) (off:Nat) (vp vq:Value):Prop where
  addr:∀ g,(Instr.fieldAt T (π g) f).run P w=.ok (.pointer (some ⟨g,off,none⟩)) w
  lp:(Instr.loadAt Tf (.pointer (some ⟨gp,off,none⟩))).run P w=.ok vp w
  lq:(Instr.loadAt Tf (.pointer (some ⟨gq,off,none⟩))).run P w=.ok vq w
  cmp:∀ x y,(do eqGuard op Tf x y vp vq;binOp op Tf vp vq:Sem Value).run P w=.ok (.bool c) w
theorem GP {P:Program} {s:Sem Value} {v:Value} {w w':World} (h:s.run P w=.ok v w'):(do pure (Next.value (← s)):Sem Next).run P w=.ok (.value v) w':=by
  rw [Sem.run_bind,h];rfl
theorem Rw {P:Program} {o:Oper} {x y z:Operand} {w:World} (ho:o.op=.pick x y z) {ρ:Operand→Value} {b:Bool} (hb:ρ x=.bool b) {v:Value} (hv:(if b=true then ρ y else ρ z)=v):(execOp ρ o).run P w=.ok (.value v) w:=by
  subst hv
  unfold execOp
  rw [ho]
  simp only [hb]
  cases b<;>rfl
abbrev L3 (prev:Nat) (b:Bool) (pb qb gp gq:Nat):List (Nat×Value):=[(prev,.bool b),(pb,π gp),(qb,π gq)]
abbrev L2 (pb qb gp gq:Nat):List (Nat×Value):=[(pb,π gp),(qb,π gq)]
theorem Nj {P:Program} {ops:Array Oper} {Q:Exit→Act→World→Prop} {md:Region.Mode} {S:World→Prop} {oi:Oper} {fuel:Nat} {listed:Array Bool} {a:Act} {w:World} {N:Nat} {l:List (Nat×Value)} (hS:S w) (h:Kn N l a) (i:Nat) (hi:ops[i]? = some oi) {d:Nat} (hd:oi.dst=some d) (hdN:d<N) (hf:∀ x∈l,x.1≠d)
    (hs:Region.noSelect ops=true) (hfr:Region.free md ops listed i=true) (hr:(Region.ready md ops listed).contains i=true) (hQ:∀ c a w v,Q (.panic c) (a.put oi.dst v) w→Q (.panic c) a w) (v:Value) (hy:YieldsIf P ops S oi v a)
    (k:∀ a',Kn N ((d,v)::l) a'→wpAnyH P md ops Q S fuel (listed.setIfInBounds i true) a' w):wpAnyH P md ops Q S (fuel+1) listed a w:=
  TF hi hd hs hfr hr (fun c a w=>hQ c a w v) hy hS (k _ (h.put hdN hf v))
end
abbrev wn := @Ac
section
section
variable {P:Program} {ops:Array Oper} {Q:Exit→Act→World→Prop} {md:Region.Mode} {S:World→Prop} {oi oj:Oper} {fuel:Nat} {listed:Array Bool} {a:Act} {w w':World} {N:Nat} {l:List (Nat×Value)} {K:Act→World→Prop}
theorem SU (h:Kn N l a) {d:Nat} (hd:oi.dst=some d) (hdN:d<N) (hf:∀ x∈l,x.1≠d) (v:Value) (hrun:(execOp a.eval oi).run P w=.ok (.value v) w')
    (k:∀ a',Kn N ((d,v)::l) a'→K a' w'):Oper.wp P oi a w K Q:=by
  unfold Oper.wp
  rw [hrun,Oper.upon_value,hd]
  exact k _ (h.put hdN hf v)
theorem Hz (h:Kn N l a) (hd:oi.dst=none) (hrun:(execOp a.eval oi).run P w=.ok .skip w') (k:∀ a',Kn N l a'→K a' w'):Oper.wp P oi a w K Q:=by
  unfold Oper.wp
  rw [hrun,Oper.upon_skip,hd]
  exact k _ h
end
end
section
structure MemM where
  V:List UInt8
  D:List UInt8
  A:List Bool
def MemM.ok (M:MemM):Prop:=M.D.length=M.V.length∧M.A.length*8=M.V.length∧M.V.length % 64=0∧64≤M.V.length∧M.V.length≤1048576
def inT (at_ n s k:Nat):Bool:=decide (0<n∧at_ / s≤k∧k*s<at_+n)
def SR (f:Nat→Bool) (V D:List UInt8):List UInt8:=(List.range D.length).map fun i=>if f (i / 8) then V.getD i 0 else D.getD i 0
def Lp (n:Nat) (f:Nat→Bool):List Bool:=(List.range n).map f
def Sq (X:List UInt8) (k:Nat):List UInt8:=(X.drop (8*k)).take 8
def Qy (V D:List UInt8) (k:Nat):Bool:=decide (Sq V k≠Sq D k)
def Qz (M:MemM):List Nat:=(List.range M.A.length).filter (Qy M.V M.D)
def Ud (p:Int):Bool:=decide ((if p<0 then -(p+1) else p) % 2=1)
def Tw (picks:List Int) (j:Nat):Bool:=decide (j<picks.length)&&Ud (picks.getD j 0)
def Ug (L:List Nat) (picks:List Int) (n:Nat) (k:Nat):Bool:=(List.range n).any fun j=>(L.getD j 0 == k)&&Tw picks j
def Uj (M:MemM) (at_:Nat) (b:List UInt8):MemM:=⟨splice M.V at_ b,M.D,Lp M.A.length fun k=>M.A.getD k false&&!inT at_ b.length 8 k⟩
def TZ (M:MemM) (at_ n:Nat):MemM:=⟨M.V,M.D,Lp M.A.length fun k=>M.A.getD k false||(inT at_ n 64 (k / 8)&&Qy M.V M.D k)⟩
def TX (M:MemM):MemM:=⟨M.V,SR (fun k=>M.A.getD k false) M.V M.D,Lp M.A.length fun _=>false⟩
def TW (M:MemM) (line:Nat):MemM:=⟨M.V,SR (fun k=>k / 8 == line) M.V M.D,Lp M.A.length fun k=>M.A.getD k false&&!(k / 8 == line)⟩
def Qx (M:MemM) (picks:List Int):List UInt8:=SR (Ug (Qz M) picks (Qz M).length) M.V M.D
def TL (M:MemM) (picks:List Int):MemM:=⟨Qx M picks,Qx M picks,Lp M.A.length fun _=>false⟩
end
section
def iV (n:Int):Value:=ν n
abbrev Ux (w:World) (a:Option Addr) (c:Nat) (A:List Int):Prop:=Row w 1 a A.length c (A.map iV)
end
section
structure Turns (X:Nat→Prop) (w w':World):Prop where
  os:w'.os=w.os
  tape:w'.tape=w.tape
  output:w'.output=w.output
  size:w.heap.size≤w'.heap.size
  block:∀ k,k<w.heap.size→¬ X k→w'.heap[k]? = w.heap[k]?
theorem Turns.refl (X:Nat→Prop) (w:World):Turns X w w:=⟨rfl,rfl,rfl,Nat.le_refl _,fun _ _ _=>rfl⟩
theorem Turns.trans {X:Nat→Prop} {w w1 w2:World} (a:Turns X w w1) (b:Turns X w1 w2):Turns X w w2:=
  ⟨b.os.trans a.os,b.tape.trans a.tape,b.output.trans a.output,Nat.le_trans a.size b.size,fun k hk hx=>(b.block k (Nat.lt_of_lt_of_le hk a.size) hx).trans (a.block k hk hx)⟩
theorem Turns.mono {X Y:Nat→Prop} {w w':World} (a:Turns X w w') (h:∀ k,X k→Y k):Turns Y w w':=⟨a.os,a.tape,a.output,a.size,fun k hk hy=>a.block k hk (fun hx=>hy (h k hx))⟩
theorem Turns.mono' {X Y:Nat→Prop} {w w':World} (a:Turns X w w') (h:∀ k,k<w.heap.size→X k→Y k):Turns Y w w':=⟨a.os,a.tape,a.output,a.size,fun k hk hy=>a.block k hk (fun hx=>hy (h k hk hx))⟩
theorem Turns.of_grown {X:Nat→Prop} {w w':World} {g:Nat} (h:w.grownBy w' (some g)) (hx:X g):Turns X w w':=
  ⟨h.os,h.tape,h.output,h.size,fun k hk hn=>h.block k hk (fun e=>hn (by cases e;exact hx))⟩
theorem Turns.of_below {X:Nat→Prop} {w w':World} (h:Below w.heap.size w w'):Turns X w w':=⟨h.os,h.tape,h.output,h.size,fun k hk _=>h.block k hk⟩
theorem Turns.below {X:Nat→Prop} {B:Nat} {w w':World} (h:Turns X w w') (hB:B≤w.heap.size) (hx:∀ k,X k→B≤k):Below B w w':=
  ⟨h.os,h.tape,h.output,h.size,fun k hk=>h.block k (Nat.lt_of_lt_of_le hk hB) (fun q=>by have:=hx k q;omega)⟩
theorem Turns.drew {X:Nat→Prop} {w w':World} (h:Turns X w w'):Turns X w w'.drew:=⟨h.os,h.tape,h.output,h.size,h.block⟩
theorem Turns.drewN {X:Nat→Prop} {w w':World} (h:Turns X w w') (n:Nat):Turns X w (w'.drewN n):=⟨h.os,h.tape,h.output,h.size,h.block⟩
theorem Turns.alloc {X:Nat→Prop} {w w':World} (h:Turns X w w') (o:Obj):Turns X w (w'.alloc o):=h.trans (Turns.of_below (Mw w' o))
theorem Turns.setCell {X:Nat→Prop} {w w':World} (h:Turns X w w') {p:Addr} (hp:X p.block) (v:Value):Turns X w (w'.setCell p v):=
  h.trans ⟨rfl,rfl,rfl,by simp [World.setCell],fun k _ hn=>Below.heap_setCell _ _ _ _ (by rintro rfl;exact hn hp)⟩
theorem Turns.blk {X:Nat→Prop} {w w':World} {g:Nat} {e:TypeId} {L:List Value} (t:Turns X w w') (h:Blk w g e L) (hx:¬ X g):Blk w' g e L:=(t.block g h.lt hx).trans h
theorem Turns.row {X:Nat→Prop} {w w':World} {sz:Nat} {a:Option Addr} {n c:Nat} {cs:List Value} (t:Turns X w w') (h:Row w sz a n c cs) (hx:0<n→∀ b,(∃ off,a=some ⟨b,off,none⟩)→¬ X b):Row w' sz a n c cs:=by
  obtain ⟨h1,h2,h3,h4,h5⟩:=h
  refine ⟨h1,h2,h3,h4,fun hn=>?_⟩
  obtain ⟨b,off,e,hlt,hc⟩:=h5 hn
  refine ⟨b,off,e,Nat.lt_of_lt_of_le hlt t.size,fun j u hu=>?_⟩
  rw [← hc j u hu]
  exact World.cell?_of_block (t.block b hlt (hx hn b ⟨off,e⟩))
theorem Turns.map {X:Nat→Prop} {w w':World} {H:Type} {P:Program} {k:TypeId} {R:Value→Option (DataW H×List MemPlace)} {b n:Nat} {D:DataW H} (t:Turns X w w') (h:w.ownsMap P k R b n D) (hx:¬ X b):w'.ownsMap P k R b n D:=by
  have hlt:=h.lt
  obtain ⟨es,clock,hb,F,hs,hD⟩:=h
  exact ⟨es,clock,(t.block b hlt hx).trans hb,F,hs,hD⟩
theorem Turns.own {X:Nat→Prop} {w w':World} {B:Nat} {e:TypeId} {sz:Nat} {a:Option Addr} {n c:Nat} {cs:List Value} (t:Turns X w w') (h:Own w B e sz a n c cs) (hx:∀ k,X k→k<B):Own w' B e sz a n c cs:=by
  refine ⟨h.1,?_⟩
  rcases h.2 with hn | ⟨b,cap,cur,hv,hb,hh,rest⟩
  · exact .inl hn
  · exact .inr ⟨b,cap,cur,hv,hb,(t.block b (Array.getElem?_eq_some_iff.1 hh).1 (fun q=>by have:=hx b q;omega)).trans hh,rest⟩
def Ih (A:List Bool) (k:Int):Bool:=decide (0≤k)&&A.getD k.toNat false
theorem LJ (A:List Bool) (k:Nat):Ih A (k:Int)=A.getD k false:=by simp [Ih]
def PendP (w:World) (p:Nat) (A:List Bool):Prop:=
  ∃ (D:DataW Unit) (n:Nat),w.ownsMap Tryz.prog 3 unitElem p n D∧(∀ k:Int,Maps.has D (.int .i64 k)=Ih A k)∧Maps.size D=A.count true
theorem NH:Maps.Keyed Tryz.prog 3:=Maps.int_keyed υ3
theorem Ua (k:Int) (h:(Lit.int .i64 k).wf=true):keyOf Tryz.prog 3 (.int .i64 k)=some (.int .i64 k):=Maps.keyOf_int_mk Tryz.underlying3 h
theorem SN (k:Int) (h:(Lit.int .i64 k).wf=true):WideAt.IsKeyLit (.int .i64 k):=NH.key (Ua k h)
theorem LK (A:List Bool) (k:Nat) (b:Bool) (hk:k<A.length) (i:Int):Ih (A.set k b) i=if i=k then b else Ih A i:=by
  unfold Ih
  by_cases e:i=k
  · subst e;simp [hk]
  · rw [if_neg e]
    by_cases h0:0≤i
    · simp only [List.getD_eq_getElem?_getD,List.getElem?_set]
      rw [if_neg ω]
    · simp [h0]
theorem Kf (A:List Bool) (k:Nat) (hk:k<A.length):(A.set k true).count true+(if A.getD k false then 1 else 0)=A.count true+1:=by
  rw [List.count_set hk]
  simp [hk]
  cases h:A[k]
  · simp
  · have:0<A.count true:=List.count_pos_iff.2 (h ▸ List.getElem_mem hk)
    simp;omega
theorem JO (A:List Bool) (k:Nat) (hk:k<A.length):(A.set k false).count true+(if A.getD k false then 1 else 0)=A.count true:=by
  rw [List.count_set hk]
  simp [hk]
  cases h:A[k]
  · simp
  · have:0<A.count true:=List.count_pos_iff.2 (h ▸ List.getElem_mem hk)
    simp;omega
theorem PendP.del {w w':World} {p:Nat} {A:List Bool} {D:DataW Unit} {n k:Nat} (hk:k<A.length) (hw:k≤1000000) (h:w.ownsMap Tryz.prog 3 unitElem p n D) (h1:∀ k:Int,Maps.has D (.int .i64 k)=Ih A k) (h2:Maps.size D=A.count true)
    (h':w'.ownsMap Tryz.prog 3 unitElem p n (D.del (.int .i64 k))):PendP w' p (A.set k false):=by
  refine ⟨_,n,h',fun i=>?_,?_⟩
  · rw [LK A k false hk]
    by_cases e:i=k
    · subst e;rw [if_pos rfl,Maps.has_del_same]
    · rw [if_neg e,Maps.has_del_other (by simpa using e),h1]
  · have h3:=Maps.size_del (k:=.int .i64 (k:Int)) (h.tidy NH)
    have h4:=JO A k hk
    rw [h1,LJ] at h3
    omega
theorem PendP.put {w w':World} {p:Nat} {A:List Bool} {D:DataW Unit} {n m k:Nat} (hk:k<A.length) (hw:k≤1000000) (h:w.ownsMap Tryz.prog 3 unitElem p n D) (h1:∀ k:Int,Maps.has D (.int .i64 k)=Ih A k) (h2:Maps.size D=A.count true)
    (h':w'.ownsMap Tryz.prog 3 unitElem p m (D.put (.int .i64 k) (.agg []))):PendP w' p (A.set k true):=by
  have hwf:(Lit.int .i64 (k:Int)).wf=true:=WalkArith.wf_i64 (by omega)
  refine ⟨_,m,h',fun i=>?_,?_⟩
  · rw [LK A k true hk]
    by_cases e:i=k
    · subst e;rw [if_pos rfl,Maps.has_put_same h.isMap (SN _ hwf)]
    · rw [if_neg e,Maps.has_put_other (by simpa using e),h1]
  · have h3:=Maps.size_put (k:=.int .i64 (k:Int)) (h.tidy NH) (.agg [])
    have h4:=Kf A k hk
    rw [h1,LJ] at h3
    cases h5:A.getD k false<;>simp only [h5,if_true,if_false,Bool.false_eq_true] at h3 h4<;>omega
theorem PendP.made (w:World) (n:Nat):PendP (w.alloc (.map #[] 0)) w.heap.size (Lp n fun _=>false):=by
  refine ⟨_,0,World.ownsMap_made w _ _ _,fun k=>?_,?_⟩
  · have:Ih (Lp n fun _=>false) k=false:=by
      unfold Ih Lp
      simp only [Bool.and_eq_false_iff]
      right
      simp only [List.getD_eq_getElem?_getD,List.getElem?_map]
      cases (List.range n)[k.toNat]?<;>rfl
    rw [this];rfl
  · have:(Lp n fun _=>false).count true=0:=by
      rw [List.count_eq_zero];simp [Lp]
    rw [this];rfl
end
section
structure Ch where
  F:Nat→Prop
  P:World→Prop
  keep:∀ {w w':World},P w→Turns (fun b=>¬ F b) w w'→P w'
  lt:∀ {w:World},P w→∀ b,F b→b<w.heap.size
structure Sep (w:World) (cs:List Ch):Prop where
  all:∀ (i:Nat) (c:Ch),cs[i]? = some c→c.P w
  ap:∀ (i j:Nat) (c d:Ch),i≠j→cs[i]? = some c→cs[j]? = some d→∀ b,c.F b→d.F b→False
theorem Sep.get {w:World} {cs:List Ch} (h:Sep w cs) (i:Nat) {c:Ch} (hi:cs[i]? = some c):c.P w:=h.all i c hi
theorem Sep.nil (w:World):Sep w []:=⟨fun i c h=>by simp at h,fun i j c d _ h=>by simp at h⟩
theorem Sep.turns {w w':World} {cs:List Ch} (h:Sep w cs) {X:Nat→Prop} (t:Turns X w w') (hX:∀ k,k<w.heap.size→X k→∀ (i:Nat) (c:Ch),cs[i]? = some c→¬ c.F k):Sep w' cs:=
  ⟨fun i c hi=>c.keep (h.all i c hi) (t.mono' fun k hk hx=>hX k hk hx i c hi),h.ap⟩
theorem Sep.mono {w w':World} {cs:List Ch} (h:Sep w cs) (b:Below w.heap.size w w'):Sep w' cs:=h.turns (X:=fun _=>False) (Turns.of_below b) (fun _ _ e=>e.elim)
theorem Sep.drew {w:World} {cs:List Ch} (h:Sep w cs):Sep w.drew cs:=h.mono (Below.refl _ _).drew
theorem Sep.upd {w w':World} {cs:List Ch} (h:Sep w cs) (i:Nat) {c:Ch} (hi:cs[i]? = some c) {X:Nat→Prop} (t:Turns X w w') (hX:∀ k,k<w.heap.size→X k→c.F k) {c':Ch} (hc:c'.P w') (hF:∀ k,c'.F k→c.F k∨w.heap.size≤k):Sep w' (cs.set i c'):=by
  have hil:i<cs.length:=(List.getElem?_eq_some_iff.1 hi).1
  have hset:∀ (j:Nat) (d:Ch),(cs.set i c')[j]? = some d→(j=i∧d=c')∨(j≠i∧cs[j]? = some d):=by
    intro j d hj
    rw [List.getElem?_set] at hj
    split at hj
    · subst_vars;(try rw [if_pos hil] at hj);cases hj;exact .inl ⟨rfl,rfl⟩
    · rename_i hne;exact .inr ⟨fun e=>hne e.symm,hj⟩
  refine ⟨fun j d hj=>?_,fun j k d e hjk hj hk b hd he=>?_⟩
  · rcases hset j d hj with ⟨_,rfl⟩ | ⟨hne,hj⟩
    · exact hc
    · exact d.keep (h.all j d hj) (t.mono' fun k hk hx hd=>h.ap i j c d (fun e=>hne e.symm) hi hj k (hX k hk hx) hd)
  · rcases hset j d hj with ⟨hj1,hj2⟩ | ⟨hnj,hj'⟩
    · rcases hset k e hk with ⟨hk1,hk2⟩ | ⟨hnk,hk'⟩
      · exact hjk (hj1.trans hk1.symm)
      · rw [hj2] at hd
        rcases hF b hd with q | q
        · exact h.ap i k c e (fun q=>hjk (hj1.trans q)) hi hk' b q he
        · have:=e.lt (h.all k e hk') b he;omega
    · rcases hset k e hk with ⟨hk1,hk2⟩ | ⟨hnk,hk'⟩
      · rw [hk2] at he
        rcases hF b he with q | q
        · exact h.ap i j c d (fun q=>hjk (q.symm.trans hk1.symm)) hi hj' b q hd
        · have:=d.lt (h.all j d hj') b hd;omega
      · exact h.ap j k d e hjk hj' hk' b hd he
theorem Sep.push {w w':World} {cs:List Ch} (h:Sep w cs) (b:Below w.heap.size w w') {c:Ch} (hc:c.P w') (hF:∀ k,c.F k→w.heap.size≤k):Sep w' (c::cs):=by
  have h':=h.mono b
  refine ⟨fun i d hi=>?_,fun i j d e hij hi hj k hd he=>?_⟩
  · cases i with
    | zero=>cases hi;exact hc
    | succ i=>exact h'.all i d (by simpa using hi)
  · cases i with
    | zero=>
      cases hi
      cases j with
      | zero=>exact hij rfl
      | succ j=>have:=e.lt (h.all j e (by simpa using hj)) k he;have:=hF k hd;omega
    | succ i=>
      cases j with
      | zero=>cases hj;have:=d.lt (h.all i d (by simpa using hi)) k hd;have:=hF k he;omega
      | succ j=>exact h'.ap i j d e (fun q=>hij (by rw [q])) (by simpa using hi) (by simpa using hj) k hd he
theorem Sep.pick {w:World} {cs out:List Ch} (h:Sep w cs) (is:List Nat) (hn:is.Nodup) (hc:is.map (fun i=>cs[i]?)=out.map some):Sep w out:=by
  have key:∀ (i:Nat) (c:Ch),out[i]? = some c→∃ k,is[i]? = some k∧cs[k]? = some c:=by
    intro i c hi
    have e:(is.map (fun i=>cs[i]?))[i]? = (out.map some)[i]?:=by rw [hc]
    rw [List.getElem?_map,List.getElem?_map,hi] at e
    cases hk:is[i]? with
    | none=>rw [hk] at e;cases e
    | some k=>rw [hk] at e;exact ⟨k,rfl,by simpa using e⟩
  refine ⟨fun i c hi=>?_,fun i j c d hij hi hj b hd he=>?_⟩
  · obtain ⟨k,_,hk⟩:=key i c hi;exact h.all k c hk
  · obtain ⟨k,h1,hk⟩:=key i c hi
    obtain ⟨m,h2,hm⟩:=key j d hj
    refine h.ap k m c d (fun e=>?_) hk hm b hd he
    subst e
    obtain ⟨l1,q1⟩:=List.getElem?_eq_some_iff.1 h1
    obtain ⟨l2,q2⟩:=List.getElem?_eq_some_iff.1 h2
    exact hij ((List.getElem_inj (h₀:=l1) (h₁:=l2) hn).1 (q1.trans q2.symm))
def Ch.many (cs:List Ch):Ch where
  F b:=∃ (i:Nat) (c:Ch),cs[i]? = some c∧c.F b
  P w:=Sep w cs
  keep h t:=h.turns t (fun k _ hk i c hi hF=>hk ⟨i,c,hi,hF⟩)
  lt h b:=fun ⟨i,c,hi,hF⟩=>c.lt (h.all i c hi) b hF
theorem Sep.tail_many {w:World}:∀ {xs R:List Ch},Sep w (xs++R)→Sep w (xs++[Ch.many R]):=by
  intro xs R h
  have hl:∀ (i:Nat) (c:Ch),(xs++[Ch.many R])[i]? = some c→xs[i]? = some c∨(i=xs.length∧c=Ch.many R):=by
    intro i c hi
    rcases Nat.lt_trichotomy i xs.length with q | q | q
    · rw [List.getElem?_append_left q] at hi;exact .inl hi
    · subst q;rw [List.getElem?_append_right (Nat.le_refl _),Nat.sub_self] at hi;cases hi;exact .inr ⟨rfl,rfl⟩
    · rw [List.getElem?_append_right ω] at hi
      have:i-xs.length≠0:=ω
      obtain ⟨n,hn⟩:=Nat.exists_eq_succ_of_ne_zero this
      rw [hn] at hi;simp at hi
  have hL:∀ (i:Nat) (c:Ch),xs[i]? = some c→(xs++R)[i]? = some c:=fun i c hi=>by rw [List.getElem?_append_left (List.getElem?_eq_some_iff.1 hi).1];exact hi
  have hR:∀ (i:Nat) (c:Ch),R[i]? = some c→(xs++R)[xs.length+i]? = some c:=fun i c hi=>by rw [List.getElem?_append_right ω,Nat.add_sub_cancel_left];exact hi
  refine ⟨fun i c hi=>?_,fun i j c d hij hi hj b hc hd=>?_⟩
  · rcases hl i c hi with q | ⟨_,rfl⟩
    · exact h.all i c (hL i c q)
    · exact ⟨fun j d hj=>h.all _ d (hR j d hj),fun j k d e hjk hj hk b=>h.ap _ _ d e ω (hR j d hj) (hR k e hk) b⟩
  · rcases hl i c hi with q | ⟨rfl,rfl⟩<;>rcases hl j d hj with r | ⟨rfl,rfl⟩
    · exact h.ap i j c d hij (hL i c q) (hL j d r) b hc hd
    · obtain ⟨k,e,hk,he⟩:=hd
      have:=(List.getElem?_eq_some_iff.1 q).1
      exact h.ap i _ c e ω (hL i c q) (hR k e hk) b hc he
    · obtain ⟨k,e,hk,he⟩:=hc
      have:=(List.getElem?_eq_some_iff.1 r).1
      exact h.ap _ j e d ω (hR k e hk) (hL j d r) b he hd
    · exact hij rfl
theorem Sep.tail_un {w:World}:∀ {xs R:List Ch},Sep w (xs++[Ch.many R])→Sep w (xs++R):=by
  intro xs R h
  have hM:(xs++[Ch.many R])[xs.length]? = some (Ch.many R):=by rw [List.getElem?_append_right (Nat.le_refl _),Nat.sub_self];rfl
  have hs:Sep w R:=h.all _ _ hM
  have hl:∀ (i:Nat) (c:Ch),(xs++R)[i]? = some c→(xs[i]? = some c∧i<xs.length)∨(xs.length≤i∧R[i-xs.length]? = some c):=by
    intro i c hi
    rcases Nat.lt_or_ge i xs.length with q | q
    · rw [List.getElem?_append_left q] at hi;exact .inl ⟨hi,q⟩
    · rw [List.getElem?_append_right q] at hi;exact .inr ⟨q,hi⟩
  have hL:∀ (i:Nat) (c:Ch),xs[i]? = some c→(xs++[Ch.many R])[i]? = some c:=fun i c hi=>by rw [List.getElem?_append_left (List.getElem?_eq_some_iff.1 hi).1];exact hi
  refine ⟨fun i c hi=>?_,fun i j c d hij hi hj b hc hd=>?_⟩
  · rcases hl i c hi with ⟨q,_⟩ | ⟨_,q⟩
    · exact h.all i c (hL i c q)
    · exact hs.all _ c q
  · rcases hl i c hi with ⟨q,q1⟩ | ⟨q1,q⟩<;>rcases hl j d hj with ⟨r,r1⟩ | ⟨r1,r⟩
    · exact h.ap i j c d hij (hL i c q) (hL j d r) b hc hd
    · exact h.ap i xs.length c _ ω (hL i c q) hM b hc ⟨_,d,r,hd⟩
    · exact h.ap xs.length j _ d ω hM (hL j d r) b ⟨_,c,q,hc⟩ hd
    · exact hs.ap _ _ c d ω q r b hc hd
theorem Sep.swap {w:World} {A B R:List Ch} (h:Sep w (A++R)) (hB:Sep w B) (hF:∀ (i:Nat) (c:Ch),B[i]? = some c→∀ k,c.F k→∃ (j:Nat) (d:Ch),A[j]? = some d∧d.F k):Sep w (B++R):=by
  have hl:∀ (i:Nat) (c:Ch),(B++R)[i]? = some c→(B[i]? = some c∧i<B.length)∨(B.length≤i∧R[i-B.length]? = some c):=by
    intro i c hi
    rcases Nat.lt_or_ge i B.length with q | q
    · rw [List.getElem?_append_left q] at hi;exact .inl ⟨hi,q⟩
    · rw [List.getElem?_append_right q] at hi;exact .inr ⟨q,hi⟩
  have hL:∀ (i:Nat) (c:Ch),A[i]? = some c→(A++R)[i]? = some c:=fun i c hi=>by rw [List.getElem?_append_left (List.getElem?_eq_some_iff.1 hi).1];exact hi
  have hR:∀ (i:Nat) (c:Ch),R[i]? = some c→(A++R)[A.length+i]? = some c:=fun i c hi=>by rw [List.getElem?_append_right ω,Nat.add_sub_cancel_left];exact hi
  refine ⟨fun i c hi=>?_,fun i j c d hij hi hj b hc hd=>?_⟩
  · rcases hl i c hi with ⟨q,_⟩ | ⟨_,q⟩
    · exact hB.all i c q
    · exact h.all _ c (hR _ c q)
  · rcases hl i c hi with ⟨q,q1⟩ | ⟨q1,q⟩<;>rcases hl j d hj with ⟨r,r1⟩ | ⟨r1,r⟩
    · exact hB.ap i j c d hij q r b hc hd
    · obtain ⟨k,e,hk,he⟩:=hF i c q b hc
      have:=(List.getElem?_eq_some_iff.1 hk).1
      exact h.ap k _ e d ω (hL k e hk) (hR _ d r) b he hd
    · obtain ⟨k,e,hk,he⟩:=hF j d r b hd
      have:=(List.getElem?_eq_some_iff.1 hk).1
      exact h.ap _ k c e ω (hR _ c q) (hL k e hk) b hc he
    · exact h.ap _ _ c d ω (hR _ c q) (hR _ d r) b hc hd
theorem Sep.cons {w:World} {c:Ch} {cs:List Ch} (hc:c.P w) (h:Sep w cs) (ha:∀ (i:Nat) (d:Ch),cs[i]? = some d→∀ b,c.F b→d.F b→False):Sep w (c::cs):=by
  refine ⟨fun i d hi=>?_,fun i j d e hij hi hj k hd he=>?_⟩
  · cases i with
    | zero=>cases hi;exact hc
    | succ i=>exact h.all i d (by simpa using hi)
  · cases i with
    | zero=>
      cases hi
      cases j with
      | zero=>exact hij rfl
      | succ j=>exact ha j e (by simpa using hj) k hd he
    | succ i=>
      cases j with
      | zero=>cases hj;exact ha i d (by simpa using hi) k he hd
      | succ j=>exact h.ap i j d e (fun q=>hij (by rw [q])) (by simpa using hi) (by simpa using hj) k hd he
theorem Sep.turn {w w':World} {A A' R:List Ch} (h:Sep w (A++R)) {X:Nat→Prop} (t:Turns X w w') (hX:∀ k,k<w.heap.size→X k→∃ (j:Nat) (d:Ch),A[j]? = some d∧d.F k) (hA:Sep w' A')
    (hF:∀ (i:Nat) (c:Ch),A'[i]? = some c→∀ k,c.F k→w.heap.size≤k∨∃ (j:Nat) (d:Ch),A[j]? = some d∧d.F k):Sep w' (A'++R):=by
  have hR:∀ (i:Nat) (c:Ch),R[i]? = some c→(A++R)[A.length+i]? = some c:=fun i c hi=>by rw [List.getElem?_append_right ω,Nat.add_sub_cancel_left];exact hi
  have hL:∀ (i:Nat) (c:Ch),A[i]? = some c→(A++R)[i]? = some c:=fun i c hi=>by rw [List.getElem?_append_left (List.getElem?_eq_some_iff.1 hi).1];exact hi
  have hl:∀ (i:Nat) (c:Ch),(A'++R)[i]? = some c→(A'[i]? = some c∧i<A'.length)∨(A'.length≤i∧R[i-A'.length]? = some c):=by
    intro i c hi
    rcases Nat.lt_or_ge i A'.length with q | q
    · rw [List.getElem?_append_left q] at hi;exact .inl ⟨hi,q⟩
    · rw [List.getElem?_append_right q] at hi;exact .inr ⟨q,hi⟩
  have hx:∀ (i j:Nat) (c d:Ch),A'[i]? = some c→R[j]? = some d→∀ b,c.F b→d.F b→False:=by
    intro i j c d hi hj b hc hd
    rcases hF i c hi b hc with q | ⟨k,e,hk,he⟩
    · have:=d.lt (h.all _ d (hR j d hj)) b hd;omega
    · have:=(List.getElem?_eq_some_iff.1 hk).1
      exact h.ap k _ e d ω (hL k e hk) (hR j d hj) b he hd
  refine ⟨fun i c hi=>?_,fun i j c d hij hi hj b hc hd=>?_⟩
  · rcases hl i c hi with ⟨q,_⟩ | ⟨_,q⟩
    · exact hA.all i c q
    · refine c.keep (h.all _ c (hR _ c q)) (t.mono' fun k hk hx' hF'=>?_)
      obtain ⟨j,d,hj,hd⟩:=hX k hk hx'
      have:=(List.getElem?_eq_some_iff.1 hj).1
      exact h.ap j _ d c ω (hL j d hj) (hR _ c q) k hd hF'
  · rcases hl i c hi with ⟨q,q1⟩ | ⟨q1,q⟩<;>rcases hl j d hj with ⟨r,r1⟩ | ⟨r1,r⟩
    · exact hA.ap i j c d hij q r b hc hd
    · exact hx _ _ c d q r b hc hd
    · exact hx _ _ d c r q b hd hc
    · exact h.ap _ _ c d ω (hR _ c q) (hR _ d r) b hc hd
theorem Sep.left {w:World} {A R:List Ch} (h:Sep w (A++R)):Sep w A:=
  ⟨fun i c hi=>h.all i c (by rw [List.getElem?_append_left (List.getElem?_eq_some_iff.1 hi).1];exact hi),fun i j c d hij hi hj=>h.ap i j c d hij (by rw [List.getElem?_append_left (List.getElem?_eq_some_iff.1 hi).1];exact hi) (by rw [List.getElem?_append_left (List.getElem?_eq_some_iff.1 hj).1];exact hj)⟩
theorem Sep.right {w:World} {A R:List Ch} (h:Sep w (A++R)):Sep w R:=
  ⟨fun i c hi=>h.all (A.length+i) c (by rw [List.getElem?_append_right ω,Nat.add_sub_cancel_left];exact hi),fun i j c d hij hi hj=>h.ap (A.length+i) (A.length+j) c d ω (by rw [List.getElem?_append_right ω,Nat.add_sub_cancel_left];exact hi) (by rw [List.getElem?_append_right ω,Nat.add_sub_cancel_left];exact hj)⟩
def Iy (w0:World) (B:Nat):Ch where
  F b:=b<B
  P w:=Below B w0 w∧B≤w0.heap.size
  keep h t:=⟨h.1.trans (t.below (Nat.le_trans h.2 h.1.size) (fun k hk=>Nat.le_of_not_lt hk)),h.2⟩
  lt h b hb:=Nat.lt_of_lt_of_le (Nat.lt_of_lt_of_le hb h.2) h.1.size
theorem Sep.start (w:World):Sep w [Iy w w.heap.size]:=
  ⟨fun i c hi=>by cases i with
    | zero=>cases hi;exact ⟨Below.refl _ _,Nat.le_refl _⟩
    | succ i=>simp at hi,fun i j c d hij hi hj=>by cases i with
    | zero=>cases j with
      | zero=>exact absurd rfl hij
      | succ j=>simp at hj
    | succ i=>simp at hi⟩
def Ah (g:Nat) (e:TypeId) (L:List Value):Ch where
  F b:=b=g
  P w:=Blk w g e L
  keep h t:=t.blk h (fun q=>q rfl)
  lt h b hb:=hb ▸ h.lt
def Ai (B:Nat) (e:TypeId) (sz:Nat) (a:Option Addr) (n c:Nat) (cs:List Value):Ch where
  F b:=(Value.slice a n c).ownBlock=some b
  P w:=Own w B e sz a n c cs
  keep {w w'} h t:=by
    obtain ⟨h0,h1⟩:=h
    refine ⟨h0,?_⟩
    rcases h1 with h1 | ⟨g,cap,cur,hv,hg,hh,h1⟩
    · exact .inl h1
    · refine .inr ⟨g,cap,cur,hv,hg,(t.block g (Array.getElem?_eq_some_iff.1 hh).1 (fun hn=>hn ?_)).trans hh,h1⟩
      rw [hv];rfl
  lt h b hb:=(World.ownsRow.lt h b hb).2
end
end Go.Proofs.YtcanemamnmmbcaaGreatDoor
