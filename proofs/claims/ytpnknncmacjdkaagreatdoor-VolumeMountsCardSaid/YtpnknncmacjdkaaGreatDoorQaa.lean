/- Parts of the proof. -/
import Derived.Test.YtpnknncmacjdkaaGreatDoorRows
import Derived.WalkKit
import Derived.WalkSpells
import Derived.WalkLawsBesides
import Derived.Laws.AppendOwnNone
import Derived.Laws.CopyOwn
import Derived.Deep.QuietTactic
import Derived.BigQuiet
import Derived.Deep.RegionHeld
import Derived.Deep.MidRow
import Derived.Laws.Rows
import Derived.Maps.RangeWalk
import Derived.Maps.OwnIn
import Derived.Laws.OwnMore
import Derived.Deep.Slices
import Derived.Deep.Fields
import Derived.ChangeSame
import Derived.Sort.Walk0
namespace Go.Proofs.YtpnknncmacjdkaaGreatDoor
open Go.RowKit
open _root_.Go.Proofs.Tryz
set_option linter.unusedSimpArgs false
set_option linter.unusedVariables false
set_option linter.unusedSectionVars false
set_option maxRecDepth 100000
set_option maxHeartbeats 8000000
theorem ω {p : Prop} (h : p := by omega) : p := h
theorem κ {α : Sort _} {a b : α} (h : a = b := by kernel_rfl) : a = b := h
abbrev π (g : Nat) : Value := .pointer (some ⟨g, 0, none⟩)
abbrev ν (n : Int) : Value := .int .i64 n
abbrev Λ := List UInt8
abbrev Ω := Option Addr
abbrev υ3 := @Tryz.underlying3
abbrev υ4 := @Tryz.underlying4
abbrev υ5 := @Tryz.underlying5
abbrev υ9 := @Tryz.underlying9
abbrev υ22 := @Tryz.underlying22
abbrev υ23 := @Tryz.underlying23
abbrev υ25 := @Tryz.underlying25
abbrev υ26 := @Tryz.underlying26
abbrev υ30 := @Tryz.underlying30
abbrev υ37 := @Tryz.underlying37
abbrev υ38 := @Tryz.underlying38
abbrev υ40 := @Tryz.underlying40
abbrev υ42 := @Tryz.underlying42
abbrev υ48 := @Tryz.underlying48
abbrev υ55 := @Tryz.underlying55
abbrev υ58 := @Tryz.underlying58
abbrev υ63 := @Tryz.underlying63
abbrev υ64 := @Tryz.underlying64
abbrev υ69 := @Tryz.underlying69
abbrev υ82 := @Tryz.underlying82
abbrev υ86 := @Tryz.underlying86
abbrev υ89 := @Tryz.underlying89
abbrev υ100 := @Tryz.underlying100
abbrev υ115 := @Tryz.underlying115
abbrev υ116 := @Tryz.underlying116
abbrev υ129 := @Tryz.underlying129
abbrev υ141 := @Tryz.underlying141
abbrev υ146 := @Tryz.underlying146
abbrev υ159 := @Tryz.underlying159
abbrev υ161 := @Tryz.underlying161
abbrev υ170 := @Tryz.underlying170
abbrev υ177 := @Tryz.underlying177
abbrev υ179 := @Tryz.underlying179
section
theorem AR {a b:Bool} (h:a=b):Ending.returned (.bool a)=.returned (.bool b):=by rw [h]
theorem FE {k:IntKind} {a b:Int} (h:a=b):Ending.returned (.int k a)=.returned (.int k b):=by rw [h]
theorem hid {p:Prop} (h:p):Hid p:=h
def Row (w:World) (sz:Nat) (a:Ω) (n c:Nat) (cs:List Value):Prop:=
  cs.length=n*sz∧n≤c∧c≤maxLen∧(a=none→c=0) ∧
    (0<n→∃ b off,a=some ⟨b,off,none⟩∧b<w.heap.size∧∀ j u,cs[j]? = some u→w.cell? ⟨b,off+j,none⟩=some u)
def Own (w:World) (B:Nat) (e:TypeId) (sz:Nat) (a:Ω) (n c:Nat) (cs:List Value):Prop:=
  w.ownsRow B e sz (.slice a n c) n cs
theorem Row.nil (w:World) (sz:Nat):Row w sz none 0 0 []:=⟨by simp,Nat.le_refl _,Nat.zero_le _,fun _=>rfl,fun h=>absurd h ω⟩
theorem Row.mono {w w':World} {sz:Nat} {a:Ω} {n c:Nat} {cs:List Value} (h:Row w sz a n c cs) (hb:Below w.heap.size w w'):Row w' sz a n c cs:=by
  obtain ⟨h1,h2,h3,h4,h5⟩:=h
  refine ⟨h1,h2,h3,h4,fun hn=>?_⟩
  obtain ⟨b,off,e,hlt,hc⟩:=h5 hn
  exact ⟨b,off,e,Nat.lt_of_lt_of_le hlt hb.size,fun j u hu=>(hb.cell (by exact hlt)).trans (hc j u hu)⟩
theorem Row.drew {w:World} {sz:Nat} {a:Ω} {n c:Nat} {cs:List Value} (h:Row w sz a n c cs):Row w.drew sz a n c cs:=h.mono (Below.refl _ _).drew
theorem Row.alloc {w:World} {sz:Nat} {a:Ω} {n c:Nat} {cs:List Value} (h:Row w sz a n c cs) (o:Obj):Row (w.alloc o) sz a n c cs:=h.mono ((Below.refl _ _).alloc (Nat.le_refl _) o)
theorem Own.row {w:World} {B:Nat} {e:TypeId} {sz:Nat} {a:Ω} {n c:Nat} {cs:List Value} (h:Own w B e sz a n c cs):Row w sz a n c cs:=by
  obtain ⟨h0,h⟩:=h
  rcases h with ⟨hv,hn⟩ | ⟨g,cap,cur,hv,hg,hh,h1,h2,h3,h4⟩
  · cases hv
    exact ⟨h0,Nat.le_refl _,Nat.zero_le _,fun _=>rfl,fun h=>absurd h ω⟩
  · cases hv
    refine ⟨h0,h1,h2,fun h=>by (cases h),fun _=>⟨g,0,rfl,(Array.getElem?_eq_some_iff.1 hh).1,fun j u hu=>?_⟩⟩
    rw [← h4,List.getElem?_take] at hu
    split at hu
    · simp at hu;simp [World.cell?,hh,hu]
    · simp at hu
theorem Own.mono {w w':World} {B:Nat} {e:TypeId} {sz:Nat} {a:Ω} {n c:Nat} {cs:List Value} (h:Own w B e sz a n c cs) (hb:Below w.heap.size w w'):Own w' B e sz a n c cs:=by
  obtain ⟨h0,h⟩:=h
  refine ⟨h0,?_⟩
  rcases h with h | ⟨g,cap,cur,hv,hg,hh,h1⟩
  · exact .inl h
  · exact .inr ⟨g,cap,cur,hv,hg,(hb.block g (Array.getElem?_eq_some_iff.1 hh).1).trans hh,h1⟩
theorem Own.low {w:World} {B B':Nat} {e:TypeId} {sz:Nat} {a:Ω} {n c:Nat} {cs:List Value} (h:Own w B e sz a n c cs) (hb:B'≤B):Own w B' e sz a n c cs:=by
  obtain ⟨h0,h⟩:=h
  refine ⟨h0,?_⟩
  rcases h with h | ⟨g,cap,cur,hv,hg,hh,h1⟩
  · exact .inl h
  · exact .inr ⟨g,cap,cur,hv,Nat.le_trans hb hg,hh,h1⟩
theorem Own.nil (w:World) (B:Nat) (e:TypeId) (sz:Nat):Own w B e sz none 0 0 []:=World.ownsRow_nil _ _ _ _
theorem Own.drew {w:World} {B:Nat} {e:TypeId} {sz:Nat} {a:Ω} {n c:Nat} {cs:List Value} (h:Own w B e sz a n c cs):Own w.drew B e sz a n c cs:=h.mono (Below.refl _ _).drew
theorem Own.alloc {w:World} {B:Nat} {e:TypeId} {sz:Nat} {a:Ω} {n c:Nat} {cs:List Value} (h:Own w B e sz a n c cs) (o:Obj):Own (w.alloc o) B e sz a n c cs:=h.mono ((Below.refl _ _).alloc (Nat.le_refl _) o)
theorem Av {w0 w1 w2:World} {B B1:Nat} (h:Below B w0 w1) (k:Below B1 w1 w2) (hB:B≤B1):Below B w0 w2:=h.trans (k.mono hB)
theorem Row.at {w:World} {sz:Nat} {a:Ω} {n c:Nat} {cs:List Value} (h:Row w sz a n c cs) (hn:0<n) :
    ∃ b off,a=some ⟨b,off,none⟩∧b<w.heap.size∧∀ j u,cs[j]? = some u→w.cell? ⟨b,off+j,none⟩=some u:=h.2.2.2.2 hn
theorem Ef {B:Nat} {a w:World} (h:Below B a w) (n:Nat):Below B a (w.drewN n):=⟨h.os,h.tape,h.output,h.size,h.block⟩
structure ElemT (P:Program) (t e:TypeId) (sz bytes:Nat):Prop where
  under:P.underlying t=some (.slice e)
  info:∃ (i:TypeInfo) (z:Value),P.info? e=some i∧i.zero=some z∧i.size=sz∧i.bytes=bytes∧z.cells.size=sz
  pos:0<sz
theorem Lv {P:Program} {t e:TypeId} {sz bytes:Nat} {z:Value} (h:P.underlying t=some (.slice e)) (hi:(P.info? e).map (fun i=>(i.zero,i.size,i.bytes))=some (some z,sz,bytes)) (hz:z.cells.size=sz) (hp:0<sz):ElemT P t e sz bytes:=by
  obtain ⟨i,h0,h1,h2,h3⟩:=info_parts hi
  exact ⟨h,⟨i,z,h0,h1,h2,h3,hz⟩,hp⟩
theorem CX {w:World} {B:Nat} {e:TypeId} {sz:Nat} {v:Value} {n:Nat} {cs:List Value} (h:w.ownsRow B e sz v n cs):∃ a c,v=.slice a n c∧Own w B e sz a n c cs:=by
  have h':=h
  obtain ⟨h0,h⟩:=h
  rcases h with ⟨hv,hn⟩ | ⟨g,cap,cur,hv,hr⟩
  · subst hn;exact ⟨none,0,hv,by rw [hv] at h';exact h'⟩
  · exact ⟨_,cap,hv,by rw [hv] at h';exact h'⟩
theorem CA {P:Program} {w:World} {ops:Array Oper} {rest:List Oper} {o:Oper} {act:Act} {Q:Exit→Act→World→Prop} (hgd:o.guard=none) (s x:Operand) {t e:TypeId} {sz bytes:Nat}
    (ho:o.op=.call { callee:=.builtin .append,args:=#[s,x],argTypes:=#[t,t] }) (E:ElemT P t e sz bytes) (B:Nat)
    {a1 a2:Ω} {n c m c2:Nat} {cs ds:List Value} (hs:act.eval s=.slice a1 n c) (hx:act.eval x=.slice a2 m c2)
    (hown:Own w B e sz a1 n c cs) (hrow:Row w sz a2 m c2 ds) (h1:∀ u∈ds,u.oneCell'=true)
    (hbytes:(n+m)*bytes≤140737488355328) (h63:n+m≤9223372036854775807) (hbase:B≤w.heap.size)
    (h:∀ a' c' w',Own w' B e sz a' (n+m) c' (cs++ds)→w.grownBy w' (Value.slice a1 n c).ownBlock→Below B w w'→wpList P ops Q rest (act.put o.dst (.slice a' (n+m) c')) w') :
    wpList P ops Q (o::rest) act w:=by
  obtain ⟨under,⟨i,z,hi,hz,hsize,hby,hzs⟩,hsz⟩:=E
  have hlt:∀ k,(Value.slice a1 n c).ownBlock=some k→B≤k:=fun k hk=>(World.ownsRow.lt hown k hk).1
  cases a2 with
  | none=>
    obtain ⟨g1,g2,g3,g4,g5⟩:=hrow
    obtain rfl:c2=0:=g4 rfl
    obtain rfl:m=0:=ω
    obtain rfl:ds=[]:=List.eq_nil_of_length_eq_zero (by simpa using g1)
    refine wpList_append_own_none hgd s x t ho B e i sz under hi (.slice a1 n c) n cs hs hown hx ?_
    exact h a1 c w (by simpa using hown) ⟨rfl,rfl,rfl,Nat.le_refl _,fun _ _ _=>rfl⟩ (Below.refl _ _)
  | some ad=>
    obtain ⟨g1,g2,g3,g4,g5⟩:=hrow
    refine wpList_append_own w hgd s x t ho B e i z sz bytes under hi hz hsize hby hzs hsz (.slice a1 n c) n cs hs hown ad m c2 ds hx g1 ?_ h1 (by unfold maxLen;omega) hbytes hbase ?_
    · intro j u hu
      have hm:0<m:=by
        rcases Nat.eq_zero_or_pos m with h0 | h0
        · subst h0;simp at g1;subst g1;simp at hu
        · exact h0
      obtain ⟨b,off,e1,_,hc⟩:=g5 hm
      cases e1
      have:=hc j u hu
      unfold Addr.add
      split
      · subst j;simpa using this
      · exact this
    · intro v' w' h2 h3 h4
      obtain ⟨a',c',rfl,h5⟩:=CX h2
      exact h a' c' w' h5 h3 ((Below.refl B w).grown h3 hbase (fun k hk=>hlt k hk))
def Blk (w:World) (g:Nat) (e:TypeId) (L:List Value):Prop:=w.heap[g]? = some (.cells L.toArray e (0,0))
theorem Blk.lt {w:World} {g:Nat} {e:TypeId} {L:List Value} (h:Blk w g e L):g<w.heap.size:=(Array.getElem?_eq_some_iff.1 h).1
theorem Blk.cell {w:World} {g:Nat} {e:TypeId} {L:List Value} (h:Blk w g e L) {i:Nat} (hi:i<L.length):w.cell? ⟨g,i,none⟩=some L[i]:=by
  unfold World.cell?
  rw [show (⟨g,i,none⟩:Addr).block=g from rfl,show w.heap[g]? = _ from h]
  simp [hi]
theorem Blk.someCell {w:World} {g:Nat} {e:TypeId} {L:List Value} (h:Blk w g e L) {i:Nat} (hi:i<L.length):∃ v,w.cell? ⟨g,i,none⟩=some v:=⟨_,h.cell hi⟩
theorem Blk.frozen {w:World} {g:Nat} {e:TypeId} {L:List Value} (h:Blk w g e L) (i:Nat):w.frozen? ⟨g,i,none⟩=false:=by
  unfold World.frozen?
  rw [show (⟨g,i,none⟩:Addr).block=g from rfl,show w.heap[g]? = _ from h]
  simp
theorem Blk.set {w:World} {g:Nat} {e:TypeId} {L:List Value} (h:Blk w g e L) (i:Nat) (v:Value):Blk (w.setCell ⟨g,i,none⟩ v) g e (L.set i v):=by
  have h':w.heap[g]? = some (.cells L.toArray e (0,0)):=h
  unfold Blk World.setCell
  simp only [Array.getElem?_modify,if_true,h',Option.map_some]
  simp
theorem Blk.mono {w w':World} {g:Nat} {e:TypeId} {L:List Value} (h:Blk w g e L) (hb:Below w.heap.size w w'):Blk w' g e L:=(hb.block g h.lt).trans h
theorem Blk.below {w w':World} {g B:Nat} {e:TypeId} {L:List Value} (h:Blk w g e L) (hb:Below B w w') (hg:g<B):Blk w' g e L:=(hb.block g hg).trans h
theorem Blk.drew {w:World} {g:Nat} {e:TypeId} {L:List Value} (h:Blk w g e L):Blk w.drew g e L:=h
theorem Own.of_blk {w:World} {B:Nat} {e:TypeId} {sz g n c:Nat} {L:List Value} (h:Blk w g e L) (hB:B≤g) (hn:n≤c) (hc:c≤maxLen) (hL:L.length=c*sz):Own w B e sz (some ⟨g,0,none⟩) n c (L.take (n*sz)):=by
  refine ⟨?_,.inr ⟨g,c,L.toArray,rfl,hB,h,hn,hc,by simpa using hL,rfl⟩⟩
  have:=Nat.mul_le_mul_right sz hn
  simp;omega
theorem Own.blk {w:World} {B:Nat} {e:TypeId} {sz g n c:Nat} {cs:List Value} (h:Own w B e sz (some ⟨g,0,none⟩) n c cs):∃ L,Blk w g e L∧L.length=c*sz∧B≤g∧L.take (n*sz)=cs∧n≤c∧c≤maxLen:=by
  obtain ⟨h0,h⟩:=h
  rcases h with ⟨hv,_⟩ | ⟨g',cap,cur,hv,hg,hh,h1,h2,h3,h4⟩
  · cases hv
  · cases hv
    exact ⟨cur.toList,by simpa [Blk] using hh,by simpa using h3,hg,h4,h1,h2⟩
theorem JD {P:Program} {w:World} {ops:Array Oper} {rest:List Oper} {o:Oper} {act:Act} {Q:Exit→Act→World→Prop} (hgd:o.guard=none) (l c:Operand) {t e:TypeId} {bytes:Nat} {z:Value}
    (ho:o.op=Op.makeSlice t l c) (under:P.underlying t=some (.slice e)) (hinfo:(P.info? e).map (fun i=>(i.zero,i.size,i.bytes))=some (some z,1,bytes)) (hz:z.cells=#[z])
    {kl kc:IntKind} {L C:Int} {n:Nat} (hl:act.eval l=.int kl L) (hc:act.eval c=.int kc C) (hL:L=(n:Int)) (hC:C=(n:Int)) (hb:bytes*n≤281474976710656) (hn:n≤9223372036854775807)
    (h:∀ w',Blk w' w.heap.size e (List.replicate n z)→Below w.heap.size w w'→wpList P ops Q rest (act.put o.dst (.slice (some ⟨w.heap.size,0,none⟩) n n)) w') :
    wpList P ops Q (o::rest) act w:=by
  obtain ⟨i,h0,h1,h2,h3⟩:=info_parts hinfo
  refine wpList_make_full w hgd l c t ho w.heap.size e i z 1 under h0 h1 h2 kl kc L C n hl hc hL hC (by rw [h3];exact hb) (by unfold maxLen;omega) (Nat.le_refl _) ?_
  intro w' hown hgrow
  refine h w' ?_ ((Below.refl _ w).grown hgrow (Nat.le_refl _) (fun k hk=>by cases hk))
  obtain ⟨K,hK,hlen,_,htake,_⟩:=Own.blk (show Own w' w.heap.size e 1 (some ⟨w.heap.size,0,none⟩) n n _ from hown)
  have:K=(madeCells z.cells (n*1)).toList:=by
    rw [← htake,List.take_of_length_le (by rw [hlen];exact Nat.le_refl _)]
  rw [this] at hK
  have e2:(madeCells z.cells (n*1)).toList=List.replicate n z:=by
    rw [hz]
    apply List.ext_getElem
    · simp [madeCells]
    · intro i h1 h2
      simp [madeCells,Nat.mod_one]
  rwa [e2] at hK
theorem Zs {P:Program} {w:World} {ops:Array Oper} {rest:List Oper} {o:Oper} {act:Act} {Q:Exit→Act→World→Prop} (hgd:o.guard=none) (d s:Operand) {t e et:TypeId}
    (ho:o.op=.call { callee:=.builtin .copy,args:=#[d,s],argTypes:=#[t,t] }) (under:P.underlying t=some (.slice e)) (hsz:(P.info? e).map (·.size)=some 1)
    {g off dLen dCap sLen sCap:Nat} {sp:Ω} (hd:act.eval d=.slice (some ⟨g,off,none⟩) dLen dCap) (hs:act.eval s=.slice sp sLen sCap)
    {L ds:List Value} (hblk:Blk w g et L) (hrow:Row w 1 sp sLen sCap ds) (h1:∀ u∈ds,u.oneCell'=true) (hfit:off+dLen≤L.length)
    (h:∀ w',Blk w' g et (splice L off (ds.take (min sLen dLen)))→Below g w w'→wpList P ops Q rest (act.put o.dst (goInt (min sLen dLen:Nat))) w') :
    wpList P ops Q (o::rest) act w:=by
  have hlen:(ds.take (min sLen dLen)).length=min sLen dLen:=by
    have:=hrow.1;simp;omega
  refine wpList_copy_splice hgd d s t t ho e under hsz _ sp dLen dCap sLen sCap hd hs g off L et hblk (ds.take (min sLen dLen)) hlen ?_ ω (fun v hv=>h1 v (List.mem_of_mem_take hv)) g w (Below.refl _ _) (Nat.le_refl _) ?_
  · intro hp
    refine ⟨rfl,?_⟩
    obtain ⟨b,off',e1,hlt,hc⟩:=hrow.at ω
    refine ⟨_,e1,fun j v hj=>?_⟩
    have hj':ds[j]? = some v:=by
      rw [List.getElem?_take] at hj
      split at hj
      · exact hj
      · cases hj
    have:=hc j v hj'
    unfold Addr.add
    split
    · subst j;simpa using this
    · exact this
  · intro w' hh hb
    have:=h w' hh.out hb
    rwa [hlen]
theorem YJ (w:World) (v:Value) (e:TypeId):Row (w.alloc (.cells #[v] e)) 1 (some ⟨w.heap.size,0,none⟩) 1 1 [v]:=by
  refine ⟨rfl,Nat.le_refl _,by unfold maxLen;omega,fun h=>by (cases h),fun _=>⟨w.heap.size,0,rfl,by simp,fun j u hu=>?_⟩⟩
  match j,hu with
  | 0,hu=>
    simp at hu;subst hu
    have hh:=heap_alloc_new w (.cells #[v] e)
    unfold World.cell?
    rw [show (⟨w.heap.size,0+0,none⟩:Addr).block=w.heap.size from rfl,hh]
    rfl
def Ad (x:UInt8):Value:=.int .u8 (x.toNat:Int)
theorem CN (xs:Λ):∀ u∈xs.map Ad,u.oneCell'=true:=by
  intro u hu;simp at hu;obtain ⟨x,_,rfl⟩:=hu;rfl
theorem E8:ElemT prog 22 5 1 1:=Lv υ22 (z:=.int .u8 0) κ rfl ω
abbrev RowB (w:World) (a:Ω) (c:Nat) (xs:Λ):Prop:=Row w 1 a xs.length c (xs.map Ad)
abbrev CF (w:World) (B:Nat) (a:Ω) (c:Nat) (xs:Λ):Prop:=Own w B 5 1 a xs.length c (xs.map Ad)
def UC (w:World) (xs:Λ) (e:Ending) (w':World):Prop:=
  ∃ a c,e=.returned (.slice a xs.length c)∧CF w' w.heap.size a c xs∧Below w.heap.size w w'
def bAt (xs:Λ) (i:Nat):Nat:=(xs.getD i 0).toNat
theorem EH (xs:Λ) (i:Nat):bAt xs i<256:=(xs.getD i 0).toNat_lt
theorem DL {xs:Λ} {i:Nat} (h:i<xs.length):bAt xs i=xs[i].toNat:=by simp [bAt,h]
theorem Row.bytes {w:World} {a:Ω} {c:Nat} {xs:Λ} (h:RowB w a c xs) (hn:0<xs.length) :
    ∃ b off,a=some ⟨b,off,none⟩∧b<w.heap.size∧∀ i,i<xs.length→w.cell? ⟨b,off+i,none⟩=some (.int .u8 (bAt xs i:Int)):=by
  obtain ⟨b,off,e,hlt,hc⟩:=h.at hn
  exact ⟨b,off,e,hlt,fun i hi=>hc i _ (by simp [hi,Ad,DL])⟩
theorem DC {w:World} {a:Ω} {c:Nat} {xs:Λ} (h:RowB w a c xs) (n:Nat):RowB w a c (xs.take n):=by
  obtain ⟨h1,h2,h3,h4,h5⟩:=h
  have hl:(xs.take n).length≤xs.length:=List.length_take_le' _ _
  refine ⟨by simp,ω,h3,h4,fun hn=>?_⟩
  obtain ⟨b,off,e,hlt,hc⟩:=h5 ω
  refine ⟨b,off,e,hlt,fun j u hu=>hc j u ?_⟩
  rw [List.map_take,List.getElem?_take] at hu
  split at hu
  · exact hu
  · cases hu
theorem Abo (w:World) (L:List Value) (e:TypeId) (hl:L.length≤9223372036854775807):Row (w.alloc (.cells L.toArray e)) 1 (some ⟨w.heap.size,0,none⟩) L.length L.length L:=by
  refine ⟨by simp,Nat.le_refl _,by unfold maxLen;omega,fun h=>by (cases h),fun _=>⟨w.heap.size,0,rfl,by simp,fun j u hu=>?_⟩⟩
  have hh:=heap_alloc_new w (.cells L.toArray e)
  unfold World.cell?
  rw [show (⟨w.heap.size,0+j,none⟩:Addr).block=w.heap.size from rfl,hh]
  simpa using hu
theorem rowB_of {w:World} {a:Ω} {len cap:Nat} {zs:List Int}
    (h:(a=none∧len=0∧cap=0∧zs=[]) ∨
      ∃ x,a=some x∧len≤cap∧cap≤maxLen∧zs.length=cap∧(∀ i,i<zs.length→w.cell? (x.add i)=some (.int .u8 (zs.getD i 0)))∧∀ n∈zs,(Lit.int .u8 n).wf=true) :
    ∃ xs:Λ,len=xs.length∧RowB w a cap xs:=by
  rcases h with ⟨rfl,rfl,rfl,_⟩ | ⟨x,rfl,h1,h2,h3,h4,h5⟩
  · exact ⟨[],rfl,Row.nil _ _⟩
  · refine ⟨(zs.take len).map (fun n=>UInt8.ofNat n.toNat),by simp;omega,by simp,by simp;omega,h2,(fun h=>by cases h),fun hn=>?_⟩
    have hn':0<zs.length:=by simp at hn;omega
    have c0:=h4 0 hn'
    have hsp:x.spot=none:=by
      unfold World.cell? Addr.add at c0
      cases hs:x.spot with
      | none=>rfl
      | some q=>simp [hs] at c0;split at c0<;>simp_all
    have hx:x=⟨x.block,x.off,none⟩:=by cases x;simp at hsp;simp [hsp]
    refine ⟨x.block,x.off,by rw [← hx],World.block_lt_of_cell? w x (u:=.int .u8 (zs.getD 0 0)) (by simpa [Addr.add] using c0),fun j u hu=>?_⟩
    have hj:j<(zs.take len).length:=by
      have:=(List.getElem?_eq_some_iff.1 hu).1
      simpa using this
    have hj2:j<zs.length:=by simp at hj;omega
    have hc:=h4 j hj2
    have ea:x.add j=⟨x.block,x.off+j,none⟩:=by
      unfold Addr.add
      split
      · subst j;rw [Nat.add_zero,← hx]
      · rfl
    rw [ea] at hc
    rw [hc]
    have hw:=h5 (zs.getD j 0) (by simp [hj2])
    have hb:0≤zs.getD j 0∧zs.getD j 0≤255:=by simpa [Lit.wf,IntKind.min,IntKind.max,IntKind.signed,IntKind.bits] using hw
    simp [List.getElem?_take,hj,hj2,Ad] at hu
    obtain ⟨_,rfl⟩:=hu
    simp [hj2] at hb ⊢
    omega
theorem Ac {w w1 w2:World} (h:Below w.heap.size w w1) (k:Below w1.heap.size w1 w2):Below w.heap.size w w2:=Av h k h.size
theorem Gu {w w1:World} (h:Below w.heap.size w w1) (o:Obj):Below w.heap.size w (w1.alloc o):=h.alloc h.size o
theorem Ce {w:World} {a:Ω} {c:Nat} {xs:Λ} (h:RowB w a c xs):xs.length≤9223372036854775807:=by
  have h1:=h.2.1;have h2:=h.2.2.1;unfold maxLen at h2;omega
theorem MK {α:Type} (L:List α) (off:Nat) (cs:List α) (v:α) (h:off+cs.length<L.length) :
    (splice L off cs).set (off+cs.length) v=splice L off (cs++[v]):=by
  unfold splice
  have e1:(L.take off).length=off:=by simp;omega
  rw [List.set_append_right _ _ ω,e1,Nat.add_sub_cancel_left,List.set_append_right _ _ (Nat.le_refl _),Nat.sub_self]
  rw [List.drop_eq_getElem_cons h]
  simp [Nat.add_assoc]
theorem Mw {w:World} {b off c:Nat} {xs:Λ} (h:RowB w (some ⟨b,off,none⟩) c xs) (lo n:Nat) (hn:lo+n≤xs.length) :
    RowB w (some ⟨b,off+lo,none⟩) (c-lo) ((xs.drop lo).take n):=by
  obtain ⟨h1,h2,h3,h4,h5⟩:=h
  have hl:((xs.drop lo).take n).length=n:=by simp;omega
  refine ⟨by simp,by rw [hl];omega,ω,(fun h=>by cases h),fun hp=>?_⟩
  obtain ⟨b',off',e,hlt,hc⟩:=h5 ω
  cases e
  refine ⟨_,_,rfl,hlt,fun j u hu=>?_⟩
  have hj:j<n:=by
    have:=(List.getElem?_eq_some_iff.1 hu).1
    simp at this;omega
  have:=hc (lo+j) u (by
    rw [List.map_take,List.map_drop,List.getElem?_take,if_pos hj,List.getElem?_drop] at hu
    exact hu)
  rw [← this];congr 2;omega
theorem IC {α β:Type} (f:α→β) (L:List α) (off:Nat) (cs:List α):(splice L off cs).map f=splice (L.map f) off (cs.map f):=by
  simp [splice]
theorem getElem?_splice {α:Type} (L:List α) (off:Nat) (cs:List α) (h:off+cs.length≤L.length) (i:Nat) :
    (splice L off cs)[i]? = if off≤i∧i<off+cs.length then cs[i-off]? else L[i]?:=by
  unfold splice
  have h1:(L.take off).length=off:=by simp;omega
  by_cases a:i<off
  · rw [List.getElem?_append_left ω,List.getElem?_take,if_pos a,if_neg ω]
  · rw [List.getElem?_append_right ω,h1]
    by_cases b:i<off+cs.length
    · rw [List.getElem?_append_left ω,if_pos ω]
    · rw [List.getElem?_append_right ω,List.getElem?_drop,if_neg ω]
      congr 1;omega
theorem Nd {α:Type} (A Z cs:List α) (off:Nat) (h:off+cs.length≤A.length):splice (A++Z) off cs=splice A off cs++Z:=by
  unfold splice
  rw [List.take_append_of_le_length ω,List.drop_append_of_le_length ω]
  simp
end
section
theorem VS {a:Act} {d:Option Tmp} {n:Tmp} {v:Value} (h:d=some n):a.put d v={ a with tmps:=a.tmps.setIfInBounds n v }:=by subst h;rfl
theorem Bc {P:Program} {ops:Array Oper} {Q:Exit→Act→World→Prop} {md:Region.Mode} {S:World→Prop} {i:Nat} {oi:Oper} {d:Tmp} {v:Value} {fuel:Nat} {listed:Array Bool} {a:Act} {w:World}
    (hi:ops[i]? = some oi) (hd:oi.dst=some d)
    (hs:Region.noSelect ops=true) (hf:Region.free md ops listed i=true) (hr:(Region.ready md ops listed).contains i=true)
    (hQ:∀ c a w,Q (.panic c) (a.put oi.dst v) w→Q (.panic c) a w) (hy:YieldsIf P ops S oi v a) (hS:S w)
    (h:wpAnyH P md ops Q S fuel (listed.setIfInBounds i true) { tmps:=a.tmps.setIfInBounds d v,defers:=a.defers } w):wpAnyH P md ops Q S (fuel+1) listed a w:=
  wpAnyH_take hi hs hf hr hQ hy hS (by rw [VS hd];exact h)
end
section
theorem KC {w w':World} {g o:Nat} {cs:List Value} (h:w.rangeAt g o cs) (hb:Below w.heap.size w w'):w'.rangeAt g o cs:=fun j v hv=>by
  have:=h j v hv
  exact (hb.cell (World.block_lt_of_cell? w _ this)).trans this
theorem At.step {w0:World} {g o:Nat} {cs:List Value} {w w':World} (h:w.rangeAt g o cs∧Below w0.heap.size w0 w) (hb:Below w.heap.size w w'):w'.rangeAt g o cs∧Below w0.heap.size w0 w':=
  ⟨KC h.1 hb,Ac h.2 hb⟩
theorem Blk.range {w:World} {g:Nat} {e:TypeId} {L:List Value} (h:Blk w g e L):w.rangeAt g 0 L:=fun j v hv=>by
  obtain ⟨h1,h2⟩:=List.getElem?_eq_some_iff.1 hv
  rw [Nat.zero_add,h.cell h1,h2]
theorem BY {P:Program} {ops:Array Oper} {Q:Exit→Act→World→Prop} {md:Region.Mode} {S:World→Prop} {i:Nat} {oi:Oper} {d:Tmp} {fuel:Nat} {listed:Array Bool} {a:Act} {w:World}
    (T:TypeId) (x:Operand) (g o:Nat) (L:List Value) (k:TypeDesc) (hi:ops[i]? = some oi) (hd:oi.dst=some d) (ho:oi.op=.load T x) (hx:a.eval x=.pointer (some ⟨g,o,none⟩)) (hw:Region.wanted oi (yielded ops a.tmps)=true)
    (hu:P.underlying T=some k) (hk:k.isRow=true) (hn:(P.info? T).map (·.size)=some L.length)
    (hs:Region.noSelect ops=true) (hf:Region.free md ops listed i=true) (hr:(Region.ready md ops listed).contains i=true)
    (hQ:∀ c a w,Q (.panic c) (a.put oi.dst (.agg L.toArray)) w→Q (.panic c) a w) (hc:∀ w',S w'→w'.rangeAt g o L) (hS:S w)
    (h:wpAnyH P md ops Q S fuel (listed.setIfInBounds i true) { tmps:=a.tmps.setIfInBounds d (.agg L.toArray),defers:=a.defers } w):wpAnyH P md ops Q S (fuel+1) listed a w:=
  Bc hi hd hs hf hr hQ (yieldsIf_load_mid hw T x ho g o hx L k hc hu hk hn) hS h
end
section
theorem YU {w w':World} {h:Nat} (g:w.grownBy w' (some h)) (i:Nat) (v:Value):w.grownBy (w'.setCell ⟨h,i,none⟩ v) (some h):=
  ⟨g.os,g.tape,g.output,by simp [World.setCell];exact g.size,fun k hk hne=>by
    rw [Below.heap_setCell _ _ _ _ (by rintro rfl;exact hne rfl)];exact g.block k hk hne⟩
theorem Ld (w:World) (r:Option Nat):w.grownBy w r:=⟨rfl,rfl,rfl,Nat.le_refl _,fun _ _ _=>rfl⟩
theorem YV {w w1 w2:World} {r:Option Nat} (a:w.grownBy w1 r) (b:w1.grownBy w2 r):w.grownBy w2 r:=
  ⟨b.os.trans a.os,b.tape.trans a.tape,b.output.trans a.output,Nat.le_trans a.size b.size,fun k hk hne=>(b.block k (Nat.lt_of_lt_of_le hk a.size) hne).trans (a.block k hk hne)⟩
theorem Blk.grownS {w w':World} {g k:Nat} {e:TypeId} {L:List Value} (h:Blk w g e L) (G:w.grownBy w' (some k)) (hne:g≠k):Blk w' g e L:=(G.block g h.lt (by simpa using hne)).trans h
theorem Blk.setOtherS {w:World} {g k:Nat} {e:TypeId} {L:List Value} (h:Blk w g e L) (hne:g≠k) (i:Nat) (v:Value):Blk (w.setCell ⟨k,i,none⟩ v) g e L:=h.grownS (YU (Ld w (some k)) i v) hne
theorem AS {w0 w w':World} {B k:Nat} (h:Below B w0 w) (G:w.grownBy w' (some k)) (hk:B≤k) (hB:B≤w.heap.size):Below B w0 w':=h.grown G hB (fun q hq=>by cases hq;exact hk)
theorem Blk.there {w:World} {g:Nat} {e:TypeId} {L:List Value} (h:Blk w g e L) (o n:Nat) (hn:o+n≤L.length):w.there g o n:=fun j hj=>by
  rw [Blk.cell h (ω:o+j<L.length)];exact ⟨rfl,Blk.frozen h _⟩
theorem Blk.setCells {g:Nat} {e:TypeId}:∀ (vs:List Value) (o:Nat) (w:World) (L:List Value),Blk w g e L→o+vs.length≤L.length→Blk (w.setCells g o vs) g e (splice L o vs)∧w.grownBy (w.setCells g o vs) (some g)
  | [],o,w,L,h,_=>by
    refine ⟨?_,Ld w _⟩
    simp [splice];exact h
  | v::r,o,w,L,h,hl=>by
    simp only [List.length_cons] at hl
    have h1:=Blk.set h o v
    obtain ⟨h2,h3⟩:=Blk.setCells r (o+1) _ _ h1 (by simp;omega)
    refine ⟨?_,YV (YU (Ld w _) o v) h3⟩
    have e1:splice (L.set o v) (o+1) r=splice L o (v::r):=by
      apply List.ext_getElem?
      intro i
      rw [getElem?_splice _ _ _ (by simp;omega),getElem?_splice _ _ _ (by simp;omega)]
      by_cases h0:i=o
      · subst h0
        rw [if_neg ω,if_pos (by simp)]
        simp [List.getElem?_set,show i<L.length by omega]
      · by_cases h4:o+1≤i∧i<o+1+r.length
        · rw [if_pos h4,if_pos (by simp;omega),show i-o=(i-(o+1))+1 by omega,List.getElem?_cons_succ]
        · rw [if_neg h4,if_neg (by simp;omega),List.getElem?_set_ne ω]
    rw [← e1];exact h2
theorem Dw {α:Type} {L vs:List α} (h:L.length=vs.length):splice L 0 vs=vs:=by
  unfold splice;simp [List.drop_eq_nil_of_le,h]
theorem MW {P:Program} {w:World} {ops:Array Oper} {rest:List Oper} {o:Oper} {act:Act} {Q:Exit→Act→World→Prop} (hgd:o.guard=none) (T:TypeId) (x y:Operand)
    (ho:o.op=.store T x y) (g:Nat) (hx:act.eval x=π g) {e:TypeId} (vs:List Value) (hy:act.eval y=.agg vs.toArray) (hn:(P.info? T).map (·.size)=some vs.length) (h1:∀ v∈vs,v.oneCell'=true) {L:List Value} (hb:Blk w g e L) (hL:L.length=vs.length)
    (h:∀ w',Blk w' g e vs→w.grownBy w' (some g)→wpList P ops Q rest (act.put o.dst undef) w'):wpList P ops Q (o::rest) act w:=by
  refine wpList_store_mid hgd T x y ho g 0 vs.toArray hx hy (by simpa using hb.there 0 vs.length ω) (by simpa using hn) (all_oneCell_toArray h1) ?_
  obtain ⟨h2,h3⟩:=Blk.setCells vs 0 w L hb ω
  rw [Dw hL] at h2
  exact h _ h2 h3
theorem Dm {P:Program} {fn:Func} {c:Tmp} {T:TypeId} (h:fn.results=#[.cell c T]) {tmps:Array Value} {w:World} {g:Nat} {e:TypeId} {L:List Value} {k:TypeDesc} (hc:tmps.getD c undef=π g) (hb:Blk w g e L)
    (hu:P.underlying T=some k) (hk:k.isRow=true) (hn:(P.info? T).map (·.size)=some L.length) :
    (results fn tmps).run P w=.ok (.agg L.toArray) w:=by
  have hv:=run_loadVar_mid (P:=P) w g 0 T L k hb.range hu hk hn
  have hc':tmps[c]?.getD undef=π g:=by simpa using hc
  simp [results,h,hc',asAddr,hv]
theorem BX {P:Program} {fn:Func} {c u:Tmp} {T:TypeId} (h:fn.results=#[.cell c T,.tmp u]) {tmps:Array Value} {w:World} {g:Nat} {e:TypeId} {L:List Value} {k:TypeDesc} (hc:tmps.getD c undef=π g) (hb:Blk w g e L)
    (hu:P.underlying T=some k) (hk:k.isRow=true) (hn:(P.info? T).map (·.size)=some L.length) :
    (results fn tmps).run P w=.ok (.tuple #[.agg L.toArray,tmps.getD u undef]) w:=by
  have hv:=run_loadVar_mid (P:=P) w g 0 T L k hb.range hu hk hn
  have hc':tmps[c]?.getD undef=π g:=by simpa using hc
  simp [results,h,hc',asAddr,hv]
def Gf (C:List Value) (z:Value) (n:Nat):List Value:=C.take n++List.replicate (C.length-n) z
theorem VL (C:List Value) (z:Value) {n:Nat} (h:n≤C.length):(Gf C z n).length=C.length:=by simp [Gf];omega
theorem Yx {C:List Value} (z:Value) {n:Nat} (h:n<C.length):(Gf C z n)[n]? = some z:=by
  unfold Gf
  rw [List.getElem?_append_right (by simp;omega),List.length_take,Nat.min_eq_left ω,Nat.sub_self,List.getElem?_replicate,if_pos ω]
theorem VM {C:List Value} (z:Value) {n:Nat} (h:n<C.length) (v:Value) (hv:C[n]? = some v):(Gf C z n).set n v=Gf C z (n+1):=by
  unfold Gf
  have hl:(C.take n).length=n:=by simp;omega
  rw [List.set_append_right _ _ ω,hl,Nat.sub_self,show C.length-n=(C.length-(n+1))+1 by omega,List.replicate_succ,List.set_cons_zero,List.take_add_one,hv]
  simp
theorem Blk.atFill {w:World} {g:Nat} {e:TypeId} {C:List Value} {z:Value} {n:Nat} (h:Blk w g e (Gf C z n)) (hn:n<C.length):w.cell? ⟨g,n,none⟩=some z:=by
  have hl:=VL C z (Nat.le_of_lt hn)
  rw [h.cell ω]
  have:=Yx z hn
  rw [List.getElem?_eq_getElem ω] at this
  exact this
theorem Blk.fill {w:World} {g:Nat} {e:TypeId} {C:List Value} {z:Value} {n:Nat} (h:Blk w g e (Gf C z n)) {v:Value} (hn:n<C.length) (hv:C[n]? = some v):Blk (w.setCell ⟨g,n,none⟩ v) g e (Gf C z (n+1)):=by
  rw [← VM z hn v hv];exact h.set n v
end
section
theorem WB {P:Program} {ops:Array Oper} {rest:List Oper} {o:Oper} {a:Act} {w:World} {Q:Exit→Act→World→Prop} (hg:o.guard=none)
    (v:Value) (w':World) (hrun:(execOp a.eval o).run P w=.ok (.value v) w')
    (h:wpList P ops Q rest (a.put o.dst v) w'):wpList P ops Q (o::rest) a w:=by
  refine wpList_plain hg fun K hK=>?_
  unfold Oper.wp
  rw [hrun,Oper.upon_value]
  exact hK _ _ h
theorem IL {P:Program} {w:World} {ops:Array Oper} {rest:List Oper} {o:Oper} {act:Act} {Q:Exit→Act→World→Prop} (hgd:o.guard=none) (T:TypeId) (x y:Operand)
    (ho:o.op=.store T x y) (g off:Nat) (hx:act.eval x=.pointer (some ⟨g,off,none⟩)) {e:TypeId} (vs:List Value) (hy:act.eval y=.agg vs.toArray) (hn:(P.info? T).map (·.size)=some vs.length) (h1:∀ v∈vs,v.oneCell'=true) {L:List Value} (hb:Blk w g e L) (hL:off+vs.length≤L.length)
    (h:∀ w',Blk w' g e (splice L off vs)→w.grownBy w' (some g)→wpList P ops Q rest (act.put o.dst undef) w'):wpList P ops Q (o::rest) act w:=by
  refine wpList_store_mid hgd T x y ho g off vs.toArray hx hy (by simpa using hb.there off vs.length hL) (by simpa using hn) (all_oneCell_toArray h1) ?_
  obtain ⟨h2,h3⟩:=Blk.setCells vs off w L hb hL
  exact h _ h2 h3
theorem YI {w:World} {g:Nat} {e:TypeId} {L:List Value} (h:Blk w g e L) (sz n:Nat) (hl:L.length=n*sz) (hm:n≤9223372036854775807):Row w sz (some ⟨g,0,none⟩) n n L:=
  ⟨hl,Nat.le_refl _,by unfold maxLen;omega,(fun h=>by cases h),fun hn=>⟨g,0,rfl,h.lt,fun j u hu=>by
    obtain ⟨h1,h2⟩:=List.getElem?_eq_some_iff.1 hu
    rw [Nat.zero_add,h.cell h1,h2]⟩⟩
theorem VG {w:World} {B:Nat} {e:TypeId} {sz:Nat} {a:Ω} {n c:Nat} {cs:List Value} (h:Own w B e sz a n c cs) (hn:0<n):∃ g,a=some ⟨g,0,none⟩:=by
  obtain ⟨h0,h⟩:=h
  rcases h with ⟨hv,h1⟩ | ⟨g,cap,cur,hv,_⟩
  · omega
  · cases hv;exact ⟨g,rfl⟩
theorem SB {w:World} {B B':Nat} {e e':TypeId} {sz sz':Nat} {a a':Ω} {n n' c c':Nat} {cs cs':List Value} (h:Own w B e sz a n c cs) (h':Own w B' e' sz' a' n' c' cs') (hne:e≠e') :
    (Value.slice a n c).ownBlock=none∨(Value.slice a n c).ownBlock≠(Value.slice a' n' c').ownBlock:=by
  rcases h.2 with ⟨hv,_⟩ | ⟨g,cap,cur,hv,_,hgg,_⟩
  · cases hv;exact .inl rfl
  · rcases h'.2 with ⟨hv',_⟩ | ⟨g',cap',cur',hv',_,hgg',_⟩
    · cases hv;cases hv';exact .inr (by simp [Value.ownBlock])
    · cases hv;cases hv'
      refine .inr fun he=>?_
      simp only [Value.ownBlock,Option.some.injEq] at he
      subst he
      rw [hgg] at hgg'
      simp only [Option.some.injEq,Obj.cells.injEq] at hgg'
      exact hne hgg'.2.1
theorem Own.staysO {w w':World} {B:Nat} {e:TypeId} {sz:Nat} {a:Ω} {n c:Nat} {cs:List Value} {row:Option Nat} (h:Own w B e sz a n c cs) (hg:w.grownBy w' row) (hne:(Value.slice a n c).ownBlock=none∨(Value.slice a n c).ownBlock≠row):Own w' B e sz a n c cs:=World.ownsRow.kept h hg hne
theorem AN {W:World} {n:Nat} (h:W.heap.size=n) (e:TypeId) (L:List Value):Blk (W.alloc (.cells L.toArray e)) n e L:=by subst h;exact heap_alloc_new W _
theorem Ck (W:World) (o:Obj):Below W.heap.size W (W.alloc o):=(Below.refl _ W).alloc (Nat.le_refl _) o
theorem Cg {w0 w w':World} {B k:Nat} (h:Below B w0 w) (G:w.grownBy w' (some k)) (hk:B≤k) (hB:B≤w.heap.size):Below B w0 w':=h.grown G hB (fun q hq=>by cases hq;exact hk)
theorem LE {α:Type} (enc:α→List Value) (sz:Nat) (h:∀ x,(enc x).length=sz):∀ L:List α,(L.flatMap enc).length=L.length*sz
  | []=>by simp
  | x::r=>by
    show (enc x++r.flatMap enc).length=_
    rw [List.length_append,h,LE enc sz h r,List.length_cons,Nat.succ_mul];omega
theorem Jc {α:Type} (enc:α→List Value) (sz:Nat) (h:∀ x,(enc x).length=sz):∀ (L:List α) (i j:Nat) (hi:i<L.length),j<sz→(L.flatMap enc)[i*sz+j]? = (enc L[i])[j]?
  | x::r,0,j,_,hj=>by
    show (enc x++r.flatMap enc)[0*sz+j]? = _
    rw [Nat.zero_mul,Nat.zero_add,List.getElem?_append_left (by rw [h];exact hj)];rfl
  | x::r,i+1,j,hi,hj=>by
    show (enc x++r.flatMap enc)[(i+1)*sz+j]? = _
    rw [List.getElem?_append_right (by rw [h,Nat.succ_mul];omega),h,Nat.succ_mul,show i*sz+sz+j-sz=i*sz+j by omega,Jc enc sz h r i j (by simpa using hi) hj];rfl
theorem LF {α:Type} (enc:α→List Value) (sz:Nat) (h:∀ x,(enc x).length=sz):∀ (L:List α) (i:Nat) (y:α),i<L.length→(L.set i y).flatMap enc=splice (L.flatMap enc) (i*sz) (enc y)
  | x::r,0,y,_=>by
    show enc y++r.flatMap enc=splice (enc x++r.flatMap enc) (0*sz) (enc y)
    unfold splice
    simp [h]
  | x::r,i+1,y,hi=>by
    show enc x++(r.set i y).flatMap enc=splice (enc x++r.flatMap enc) ((i+1)*sz) (enc y)
    rw [LF enc sz h r i y (by simpa using hi)]
    unfold splice
    have hx:=h x
    have e1:(i+1)*sz=(enc x).length+i*sz:=by rw [hx,Nat.succ_mul];omega
    rw [e1,List.take_length_add_append,Nat.add_assoc,List.drop_length_add_append]
    simp only [List.append_assoc]
theorem QN {α:Type} {enc:α→List Value} {sz:Nat} (h:∀ x,(enc x).length=sz) {w:World} {a:Ω} {c:Nat} {L:List α} (r:Row w sz a L.length c (L.flatMap enc)) (hn:0<L.length) :
    ∃ b off,a=some ⟨b,off,none⟩∧b<w.heap.size∧∀ i (hi:i<L.length) j u,(enc L[i])[j]? = some u→w.cell? ⟨b,off+i*sz+j,none⟩=some u:=by
  obtain ⟨b,off,e,hlt,hc⟩:=r.at hn
  refine ⟨b,off,e,hlt,fun i hi j u hu=>?_⟩
  have hj:j<sz:=by rw [← h L[i]];exact (List.getElem?_eq_some_iff.1 hu).1
  rw [Nat.add_assoc]
  exact hc _ _ (by rw [Jc enc sz h L i j hi hj];exact hu)
theorem Me {w:World} {B:Nat} {e:TypeId} {sz g n c:Nat} {cs:List Value} (h:Own w B e sz (some ⟨g,0,none⟩) n c cs) :
    ∃ L,Blk w g e L∧n*sz≤L.length∧B≤g∧∀ w' off (vs:List Value),off+vs.length≤n*sz→Blk w' g e (splice L off vs)→Own w' B e sz (some ⟨g,0,none⟩) n c (splice cs off vs):=by
  have h0:=h.1
  obtain ⟨L,hb,hl,hB,ht,hnc,hc⟩:=Own.blk h
  have hle:n*sz≤L.length:=by rw [hl];exact Nat.mul_le_mul_right sz hnc
  refine ⟨L,hb,hle,hB,fun w' off vs hv hb'=>?_⟩
  have hs:(splice L off vs).length=L.length:=length_splice L off vs ω
  have q:=Own.of_blk (B:=B) (sz:=sz) (n:=n) (c:=c) hb' hB hnc hc (by rw [hs,hl])
  have e1:L=cs++L.drop (n*sz):=by rw [← ht,List.take_append_drop]
  have e2:(splice L off vs).take (n*sz)=splice cs off vs:=by
    rw [e1,Nd cs _ vs off ω]
    exact List.take_left' (by rw [length_splice cs off vs ω];exact h0)
  rw [e2] at q
  exact q
theorem Bo {c:Prop} [Decidable c] {A B:Prop} (h:c) (a:A):if c then A else B:=by rw [if_pos h];exact a
end
section
structure Kn (N:Nat) (l:List (Nat×Value)) (a:Act):Prop where
  size:a.tmps.size=N
  known:∀ x∈l,a.tmps[x.1]? = some x.2
  defs:a.defers=[]
theorem Kn.eval {N:Nat} {l:List (Nat×Value)} {a:Act} (h:Kn N l a) {k:Nat} {v:Value} (hm:(k,v)∈l):a.eval (.tmp k)=v:=by
  have:=h.known _ hm
  show a.tmps.getD k undef=v
  rw [Array.getD_eq_getD_getElem?,this];rfl
theorem Kn.ev {N:Nat} {l:List (Nat×Value)} {a:Act} (h:Kn N l a) (k:Nat) {v:Value} (hm:l.find? (fun y=>y.1 == k)=some (k,v)):a.eval (.tmp k)=v:=h.eval (List.mem_of_find?_eq_some hm)
theorem Kn.put {N:Nat} {l:List (Nat×Value)} {a:Act} (h:Kn N l a) {d:Nat} (hd:d<N) (hf:∀ x∈l,x.1≠d) (v:Value):Kn N ((d,v)::l) (a.put (some d) v):=by
  refine ⟨by show (a.tmps.setIfInBounds d v).size=N;rw [Array.size_setIfInBounds];exact h.size,fun x hx=>?_,h.defs⟩
  show (a.tmps.setIfInBounds d v)[x.1]? = some x.2
  rw [Array.getElem?_setIfInBounds]
  rcases List.mem_cons.1 hx with rfl | hx
  · rw [if_pos rfl,if_pos (by rw [h.size];exact hd)]
  · rw [if_neg (fun e=>hf x hx e.symm)];exact h.known x hx
theorem Kn.sub {N:Nat} {l l':List (Nat×Value)} {a:Act} (h:Kn N l a) (hs:∀ x∈l',x∈l):Kn N l' a:=⟨h.size,fun x hx=>h.known x (hs x hx),h.defs⟩
theorem fr {l:List (Nat×Value)} {d:Nat} (h:l.all (fun x=>!(x.1 == d))=true):∀ x∈l,x.1≠d:=fun x hx e=>by
  have:=List.all_eq_true.1 h x hx
  simp [e] at this
theorem Kn.subs {N:Nat} {l l':List (Nat×Value)} {a:Act} (h:Kn N l a) (hs:(l'.map fun x=>l.find? fun y=>y.1 == x.1)=l'.map some):Kn N l' a:=h.sub fun x hx=>by
  have:some x∈l'.map some:=List.mem_map.2 ⟨x,hx,rfl⟩
  rw [← hs] at this
  obtain ⟨i,_,hi⟩:=List.mem_map.1 this
  exact List.mem_of_find?_eq_some hi
theorem Kn.yields {N:Nat} {l:List (Nat×Value)} {a:Act} (h:Kn N l a) {ops:Array Oper} {g prev:Nat} {b:Bool} (hg:(ops[g]?).bind (·.dst)=some prev) (hm:(prev,.bool b)∈l):yielded ops a.tmps g=some b:=by
  unfold yielded
  rw [hg,Option.bind_some]
  have:=h.known _ hm
  show (match a.tmps[prev]? with | some (.bool b)=>some b | _=>none)=some b
  rw [this]
theorem Ae {o:Oper} {y:Nat→Option Bool} {g:Nat} {want b:Bool} (hg:o.guard=some (g,want)) (hy:y g=some b):Region.wanted o y=(b == want):=by
  unfold Region.wanted
  rw [hg]
  simp only [hy]
  cases b<;>cases want<;>rfl
theorem Ak {P:Program} {ops:Array Oper} {Q:Exit→Act→World→Prop} {rest:List Oper} {o:Oper} {a:Act} {w w':World} {N:Nat} {l:List (Nat×Value)} (h:Kn N l a) (hw:Region.wanted o (yielded ops a.tmps)=true) {d:Nat} (hd:o.dst=some d) (hdN:d<N) (hf:∀ x∈l,x.1≠d) (v:Value)
    (hr:(execOp a.eval o).run P w=.ok (.value v) w') (k:∀ a',Kn N ((d,v)::l) a'→wpList P ops Q rest a' w'):wpList P ops Q (o::rest) a w:=by
  refine wpList_step fun K hK=>?_
  rw [if_pos hw]
  unfold Oper.wp
  rw [hr,Oper.upon_value,hd]
  exact hK _ _ (k _ (h.put hdN hf v))
theorem Bf {P:Program} {ops:Array Oper} {Q:Exit→Act→World→Prop} {rest:List Oper} {o:Oper} {a:Act} {w:World} {N:Nat} {l:List (Nat×Value)} (h:Kn N l a) (hw:Region.wanted o (yielded ops a.tmps)=false) {d:Nat} (hd:o.dst=some d) (hdN:d<N) (hf:∀ x∈l,x.1≠d)
    (k:∀ a',Kn N ((d,undef)::l) a'→wpList P ops Q rest a' w):wpList P ops Q (o::rest) a w:=by
  refine wpList_skip hw ?_
  rw [hd]
  exact k _ (h.put hdN hf undef)
theorem Aa {o:Oper} {y:Nat→Option Bool} (hg:o.guard=none):Region.wanted o y=true:=by unfold Region.wanted;rw [hg]
structure Cmp (P:Program) (w:World) (T:TypeId) (f:Nat) (Tf:TypeId) (op:BinOp) (gp gq:Nat) (c:Bool) (off:Nat) (vp vq:Value):Prop where
  addr:∀ g,(Instr.fieldAt T (π g) f).run P w=.ok (.pointer (some ⟨g,off,none⟩)) w
  lp:(Instr.loadAt Tf (.pointer (some ⟨gp,off,none⟩))).run P w=.ok vp w
  lq:(Instr.loadAt Tf (.pointer (some ⟨gq,off,none⟩))).run P w=.ok vq w
  cmp:∀ x y,(do eqGuard op Tf x y vp vq;binOp op Tf vp vq:Sem Value).run P w=.ok (.bool c) w
theorem Af {P:Program} {s:Sem Value} {v:Value} {w w':World} (h:s.run P w=.ok v w'):(do pure (Next.value (← s)):Sem Next).run P w=.ok (.value v) w':=by
  rw [Sem.run_bind,h];rfl
theorem BR {P:Program} {o:Oper} {x y z:Operand} {w:World} (ho:o.op=.pick x y z) {ρ:Operand→Value} {b:Bool} (hb:ρ x=.bool b) {v:Value} (hv:(if b=true then ρ y else ρ z)=v):(execOp ρ o).run P w=.ok (.value v) w:=by
  subst hv
  unfold execOp
  rw [ho]
  simp only [hb]
  cases b<;>rfl
abbrev L3 (prev:Nat) (b:Bool) (pb qb gp gq:Nat):List (Nat×Value):=[(prev,.bool b),(pb,π gp),(qb,π gq)]
abbrev L2 (pb qb gp gq:Nat):List (Nat×Value):=[(pb,π gp),(qb,π gq)]
theorem Bk {P:Program} {ops:Array Oper} {Q:Exit→Act→World→Prop} {rest:List Oper} {a:Act} {w:World} {N:Nat} {l:List (Nat×Value)} (h:Kn N l a) (k:∀ a',Kn N l a'→wpList P ops Q rest a' w):wpList P ops Q rest a w:=k a h
theorem BI {P:Program} {ops:Array Oper} {Q:Exit→Act→World→Prop} {rest:List Oper} {o:Oper} {a:Act} {w:World} {N:Nat} {l:List (Nat×Value)} (h:Kn N l a) (hw:Region.wanted o (yielded ops a.tmps)=true) {d:Nat} (hd:o.dst=some d) (hdN:d<N) (hf:∀ x∈l,x.1≠d)
    {fn:FuncId} (hcf:∀ args,(callFunc fn args).run P w=.ok (.enter fn args) w) {xs:Array Operand} {ts:Array TypeId} (p:o.op=.call { callee:=.value (.func fn),args:=xs,argTypes:=ts }) (vs:Array Value) (hx:xs.map a.eval=vs)
    {R:Value→World→Prop} (HC:Calls P fn vs w fun e w'=>∃ v,e=.returned v∧R v w') (k:∀ a' v w',R v w'→Kn N ((d,v)::l) a'→wpList P ops Q rest a' w'):wpList P ops Q (o::rest) a w:=by
  refine wpList_step fun K hK=>?_
  rw [if_pos hw]
  have hrun:(execOp a.eval o).run P w=.ok (.enter fn vs) w:=by
    unfold execOp;rw [p]
    simp [resolve,invoke,Deferred.ofValue,hx,hcf]
    simp [Act.eval,hcf]
  unfold Oper.wp
  rw [hrun,Oper.upon_enter]
  refine HC.mono ?_
  rintro e w' ⟨v,rfl,hv⟩
  simp only
  refine hK _ _ ?_
  rw [hd]
  exact k _ v w' hv (h.put hdN hf v)
theorem JC {P:Program} {ops:Array Oper} {Q:Exit→Act→World→Prop} {md:Region.Mode} {S:World→Prop} {oi:Oper} {fuel:Nat} {listed:Array Bool} {a:Act} {w:World} {N:Nat} {l:List (Nat×Value)} (hS:S w) (h:Kn N l a) (i:Nat) (hi:ops[i]? = some oi) {d:Nat} (hd:oi.dst=some d) (hdN:d<N) (hf:∀ x∈l,x.1≠d)
    (hs:Region.noSelect ops=true) (hfr:Region.free md ops listed i=true) (hr:(Region.ready md ops listed).contains i=true) (hQ:∀ c a w v,Q (.panic c) (a.put oi.dst v) w→Q (.panic c) a w) (v:Value) (hy:YieldsIf P ops S oi v a)
    (k:∀ a',Kn N ((d,v)::l) a'→wpAnyH P md ops Q S fuel (listed.setIfInBounds i true) a' w):wpAnyH P md ops Q S (fuel+1) listed a w:=
  Bc hi hd hs hfr hr (fun c a w=>hQ c a w v) hy hS (k _ (h.put hdN hf v))
theorem results_tmp2 {P:Program} {fn:Func} {c d:Nat} (h:fn.results=#[.tmp c,.tmp d]) {tmps:Array Value} {w:World} {v u:Value} (hc:tmps[c]? = some v) (hd:tmps[d]? = some u):(results fn tmps).run P w=.ok (.tuple #[v,u]) w:=by
  simp [results,h,hc,hd]
theorem AL {P:Program} {fn:Func} {c:Nat} (h:fn.results=#[.tmp c]) {tmps:Array Value} {w:World} {v:Value} (hc:tmps[c]? = some v):(results fn tmps).run P w=.ok v w:=by
  simp [results,h,hc]
theorem wv {P:Program} {ops:Array Oper} {Q:Exit→Act→World→Prop} {rest:List Oper} {o:Oper} {a:Act} {w w':World} {N:Nat} {l:List (Nat×Value)} (h:Kn N l a) (hg:o.guard=none) {d:Nat} (hd:o.dst=some d) (hdN:decide (d<N)=true) (hf:l.all (fun x=>!(x.1 == d))=true) (v:Value)
    (hr:(execOp a.eval o).run P w=.ok (.value v) w') (k:∀ a',Kn N ((d,v)::l) a'→wpList P ops Q rest a' w'):wpList P ops Q (o::rest) a w:=
  Ak h (Aa hg) hd (of_decide_eq_true hdN) (fr hf) v hr k
theorem wmk {P:Program} {ops:Array Oper} {Q:Exit→Act→World→Prop} {rest:List Oper} {o:Oper} {a:Act} {w:World} {N:Nat} {l:List (Nat×Value)} (h:Kn N l a) (hg:o.guard=none) {d:Nat} (hd:o.dst=some d) (hdN:decide (d<N)=true) (hf:l.all (fun x=>!(x.1 == d))=true) (k:Nat) {v:Value} (hm:l.find? (fun y=>y.1 == k)=some (k,v))
    (ho:∀ ρ:Operand→Value,execOp ρ o=pure (.value (ρ (.tmp k)))) (K:∀ a',Kn N ((d,v)::l) a'→wpList P ops Q rest a' w):wpList P ops Q (o::rest) a w:=
  Ak h (Aa hg) hd (of_decide_eq_true hdN) (fr hf) v (by rw [ho,h.ev k hm];rfl) K
theorem cF {f : Nat} {fn : Func} (h : Tryz.prog.funcs[f]? = some fn) (hn : (fn.name == "runtime.NumGoroutine") = false := by rfl) (hb : fn.body.isSome = true := by rfl) (args : Array Value) (w : World) : (callFunc f args).run Tryz.prog w = .ok (.enter f args) w := by
  have hn : fn.name ≠ "runtime.NumGoroutine" := by simpa using hn
  have hb:fn.body≠none:=fun e=>by rw [e] at hb;cases hb
  unfold callFunc
  simp [Sem.run_bind,h,hn,hb]
theorem fQ {T:TypeId} {i g off:Nat} (k:Nat) (h:∀ w,(Instr.fieldAt T (.pointer (some ⟨g,off,none⟩)) i).run Tryz.prog w=.ok (.pointer (some ⟨g,off+k,none⟩)) w:=by intro w;rfl):∀ w,(Instr.fieldAt T (.pointer (some ⟨g,off,none⟩)) i).run Tryz.prog w=.ok (.pointer (some ⟨g,off+k,none⟩)) w:=h
end
abbrev wn := @Aa
section
section
variable {P:Program} {ops:Array Oper} {Q:Exit→Act→World→Prop} {md:Region.Mode} {S:World→Prop} {oi oj:Oper} {fuel:Nat} {listed:Array Bool} {a:Act} {w w':World} {N:Nat} {l:List (Nat×Value)} {K:Act→World→Prop}
theorem AF (i:Nat) (hi:ops[i]? = some oi) (hg:oi.guard=none) (hr:Region.ready md ops listed=[i])
    (k:∀ K:Act→World→Prop,(∀ a' w',S w'→(S w'→wpAnyH P md ops Q S fuel (listed.setIfInBounds i true) a' w')→K a' w')→Oper.wp P oi a w K Q):wpAnyH P md ops Q S (fuel+1) listed a w:=
  wpAnyH_ready hr (by simp) (AllReadyH.cons hi (fun K hK=>by
    rw [if_pos (Aa hg)]
    exact k K (Shut.out hK)) AllReadyH.nil)
theorem Uz (i j:Nat) (hi:ops[i]? = some oi) (hj:ops[j]? = some oj) (gi:oi.guard=none) (gj:oj.guard=none) (hr:Region.ready md ops listed=[i,j])
    (k:∀ K:Act→World→Prop,(∀ a' w',S w'→(S w'→wpAnyH P md ops Q S fuel (listed.setIfInBounds i true) a' w')→K a' w')→Oper.wp P oi a w K Q)
    (k2:∀ K:Act→World→Prop,(∀ a' w',S w'→(S w'→wpAnyH P md ops Q S fuel (listed.setIfInBounds j true) a' w')→K a' w')→Oper.wp P oj a w K Q):wpAnyH P md ops Q S (fuel+1) listed a w:=
  wpAnyH_ready hr (by simp) (AllReadyH.cons hi (fun K hK=>by
    rw [if_pos (Aa gi)]
    exact k K (Shut.out hK)) (AllReadyH.cons hj (fun K hK=>by
    rw [if_pos (Aa gj)]
    exact k2 K (Shut.out hK)) AllReadyH.nil))
theorem Di (h:Kn N l a) {d:Nat} (hd:oi.dst=some d) (hdN:d<N) (hf:∀ x∈l,x.1≠d) (v:Value) (hrun:(execOp a.eval oi).run P w=.ok (.value v) w')
    (k:∀ a',Kn N ((d,v)::l) a'→K a' w'):Oper.wp P oi a w K Q:=by
  unfold Oper.wp
  rw [hrun,Oper.upon_value,hd]
  exact k _ (h.put hdN hf v)
theorem Lc (h:Kn N l a) (hd:oi.dst=none) (hrun:(execOp a.eval oi).run P w=.ok .skip w') (k:∀ a',Kn N l a'→K a' w'):Oper.wp P oi a w K Q:=by
  unfold Oper.wp
  rw [hrun,Oper.upon_skip,hd]
  exact k _ h
theorem DT (h:Kn N l a) {d:Nat} (hd:oi.dst=some d) (hdN:d<N) (hf:∀ x∈l,x.1≠d)
    {fn:FuncId} (hcf:∀ args,(callFunc fn args).run P w=.ok (.enter fn args) w) {xs:Array Operand} {ts:Array TypeId} (p:oi.op=.call { callee:=.value (.func fn),args:=xs,argTypes:=ts }) (vs:Array Value) (hx:xs.map a.eval=vs)
    {R:Value→World→Prop} (HC:Calls P fn vs w fun e w'=>∃ v,e=.returned v∧R v w')
    (k:∀ a' v w',R v w'→Kn N ((d,v)::l) a'→K a' w'):Oper.wp P oi a w K Q:=by
  have hrun:(execOp a.eval oi).run P w=.ok (.enter fn vs) w:=by
    unfold execOp;rw [p]
    simp [resolve,invoke,Deferred.ofValue,hx,hcf]
    simp [Act.eval,hcf]
  unfold Oper.wp
  rw [hrun,Oper.upon_enter]
  refine HC.mono ?_
  rintro e w' ⟨v,rfl,hv⟩
  simp only
  rw [hd]
  exact k _ v w' hv (h.put hdN hf v)
end
end
section
structure MemM where
  V:Λ
  D:Λ
  A:List Bool
def MemM.ok (M:MemM):Prop:=M.D.length=M.V.length∧M.A.length*8=M.V.length∧M.V.length % 64=0∧64≤M.V.length∧M.V.length≤1048576
def inT (at_ n s k:Nat):Bool:=decide (0<n∧at_ / s≤k∧k*s<at_+n)
def Fl (f:Nat→Bool) (V D:Λ):Λ:=(List.range D.length).map fun i=>if f (i / 8) then V.getD i 0 else D.getD i 0
def EF (n:Nat) (f:Nat→Bool):List Bool:=(List.range n).map f
def GF (X:Λ) (k:Nat):Λ:=(X.drop (8*k)).take 8
def DN (V D:Λ) (k:Nat):Bool:=decide (GF V k≠GF D k)
def Xd (M:MemM):List Nat:=(List.range M.A.length).filter (DN M.V M.D)
def Ag3 (p:Int):Bool:=decide ((if p<0 then -(p+1) else p) % 2=1)
def Afp (picks:List Int) (j:Nat):Bool:=decide (j<picks.length)&&Ag3 (picks.getD j 0)
def Ahc (L:List Nat) (picks:List Int) (n:Nat) (k:Nat):Bool:=(List.range n).any fun j=>(L.getD j 0 == k)&&Afp picks j
def FQ (M:MemM) (at_:Nat) (b:Λ):MemM:=⟨splice M.V at_ b,M.D,EF M.A.length fun k=>M.A.getD k false&&!inT at_ b.length 8 k⟩
def JV (M:MemM) (at_ n:Nat):MemM:=⟨M.V,M.D,EF M.A.length fun k=>M.A.getD k false||(inT at_ n 64 (k / 8)&&DN M.V M.D k)⟩
def JT (M:MemM):MemM:=⟨M.V,Fl (fun k=>M.A.getD k false) M.V M.D,EF M.A.length fun _=>false⟩
def Ac4 (M:MemM) (line:Nat):MemM:=⟨M.V,Fl (fun k=>k / 8 == line) M.V M.D,EF M.A.length fun k=>M.A.getD k false&&!(k / 8 == line)⟩
def WY (M:MemM) (picks:List Int):Λ:=Fl (Ahc (Xd M) picks (Xd M).length) M.V M.D
def Agm (M:MemM) (picks:List Int):MemM:=⟨WY M picks,WY M picks,EF M.A.length fun _=>false⟩
theorem Fs (n:Nat) (f:Nat→Bool):(EF n f).length=n:=by simp [EF]
theorem Rd {n:Nat} (f:Nat→Bool) {k:Nat} (h:k<n):(EF n f).getD k false=f k:=by simp [EF,h]
theorem Jv {L:List Bool} {n:Nat} {f:Nat→Bool} (hl:L.length=n) (h:∀ k,k<n→L.getD k false=f k):L=EF n f:=by
  apply List.ext_getElem
  · rw [hl,Fs]
  · intro k h1 h2
    have:=h k ω
    simp [h1] at this
    simp [EF,this]
theorem Wp (L:List Bool):EF L.length (fun k=>L.getD k false)=L:=(Jv rfl (fun _ _=>rfl)).symm
theorem Fr {n:Nat} {f g:Nat→Bool} (h:∀ k,k<n→f k=g k):EF n f=EF n g:=by
  refine Jv (Fs _ _) fun k hk=>?_
  rw [Rd f hk];exact h k hk
theorem Zf (n:Nat) (f:Nat→Bool) (k:Nat) (b:Bool):(EF n f).set k b=EF n fun i=>if i=k then b else f i:=by
  refine Jv (by simp [Fs]) fun i hi=>?_
  by_cases e:i=k
  · subst e;simp [Fs,hi]
  · have h0:=Rd f hi
    rw [if_neg e,← h0]
    simp only [List.getD_eq_getElem?_getD,List.getElem?_set]
    rw [if_neg (fun h=>e h.symm)]
theorem Dl (f:Nat→Bool) (V D:Λ):(Fl f V D).length=D.length:=by simp [Fl]
theorem Fm (f:Nat→Bool) (V D:Λ) {i:Nat} (h:i<D.length):(Fl f V D).getD i 0=if f (i / 8) then V.getD i 0 else D.getD i 0:=by simp [Fl,h]
theorem CP {A B:Λ} (h:A.length=B.length) (k:∀ i,i<B.length→A.getD i 0=B.getD i 0):A=B:=by
  apply List.ext_getElem h
  intro i h1 h2
  have:=k i h2
  simpa [h1,h2] using this
theorem Du {f g:Nat→Bool} {V D:Λ} (h:∀ k,k*8<D.length→f k=g k):Fl f V D=Fl g V D:=by
  refine CP (by simp [Dl]) fun i hi=>?_
  rw [Dl] at hi
  rw [Fm f V D hi,Fm g V D hi,h (i / 8) ω]
theorem Vx (f g:Nat→Bool) (V D:Λ):Fl f V (Fl g V D)=Fl (fun k=>f k||g k) V D:=by
  refine CP (by simp [Dl]) fun i hi=>?_
  rw [Dl] at hi
  rw [Fm f _ _ (by rw [Dl];exact hi),Fm g V D hi,Fm _ V D hi]
  cases f (i / 8)<;>cases g (i / 8)<;>simp
theorem NC (V D:Λ):Fl (fun _=>false) V D=D:=by
  refine CP (by simp [Dl]) fun i hi=>?_
  rw [Fm _ V D hi];simp
theorem JJ {X:Λ} {k:Nat} (h:8*k+8≤X.length):(GF X k).length=8:=by simp [GF];omega
theorem UO {X:Λ} {k i:Nat} (h:i<8):(GF X k).getD i 0=X.getD (8*k+i) 0:=by
  simp only [GF,List.getD_eq_getElem?_getD,List.getElem?_take,List.getElem?_drop,if_pos h]
theorem Fy (L:Λ) (off:Nat) (cs:Λ) (h:off+cs.length≤L.length) (i:Nat) :
    (splice L off cs).getD i 0=if off≤i∧i<off+cs.length then cs.getD (i-off) 0 else L.getD i 0:=by
  simp only [List.getD_eq_getElem?_getD,getElem?_splice L off cs h]
  split<;>rfl
theorem Td {V D:Λ} {k:Nat} (hl:D.length=V.length) (h:8*k+8≤D.length):splice D (8*k) (GF V k)=Fl (fun i=>i == k) V D:=by
  have h8:=JJ (X:=V) (k:=k) ω
  refine CP (by rw [length_splice _ _ _ ω,Dl]) fun i hi=>?_
  rw [Dl] at hi
  rw [Fy _ _ _ ω,h8,Fm _ V D hi]
  by_cases hc:8*k≤i∧i<8*k+8
  · have:i / 8=k:=ω
    rw [if_pos hc,UO ω,show 8*k+(i-8*k)=i by omega]
    simp [this]
  · have:¬ (i / 8=k):=ω
    rw [if_neg hc]
    simp [this]
theorem ND (f:Nat→Bool) (k:Nat) (V D:Λ):Fl (fun i=>i == k) V (Fl f V D)=Fl (fun i=>f i||i == k) V D:=by
  rw [Vx];exact Du fun i _=>Bool.or_comm _ _
theorem Ns {M:MemM} (h:M.ok):(JT M).ok:=by
  simpa only [MemM.ok,JT,Fs,Dl] using h
end
section
def iV (n:Int):Value:=ν n
abbrev Oi (w:World) (a:Ω) (c:Nat) (A:List Int):Prop:=Row w 1 a A.length c (A.map iV)
theorem SO {w:World} {a:Ω} {c:Nat} {A:List Int} (h:Oi w a c A) (hn:0<A.length) :
    ∃ b off,a=some ⟨b,off,none⟩∧b<w.heap.size∧∀ i,i<A.length→w.cell? ⟨b,off+i,none⟩=some (ν (A.getD i 0)):=by
  obtain ⟨b,off,e,hlt,hc⟩:=h.at hn
  exact ⟨b,off,e,hlt,fun i hi=>hc i _ (by simp [hi,iV])⟩
end
section
structure Turns (X:Nat→Prop) (w w':World):Prop where
  os:w'.os=w.os
  tape:w'.tape=w.tape
  output:w'.output=w.output
  size:w.heap.size≤w'.heap.size
  block:∀ k,k<w.heap.size→¬ X k→w'.heap[k]? = w.heap[k]?
theorem Turns.refl (X:Nat→Prop) (w:World):Turns X w w:=⟨rfl,rfl,rfl,Nat.le_refl _,fun _ _ _=>rfl⟩
theorem Turns.trans {X:Nat→Prop} {w w1 w2:World} (a:Turns X w w1) (b:Turns X w1 w2):Turns X w w2:=
  ⟨b.os.trans a.os,b.tape.trans a.tape,b.output.trans a.output,Nat.le_trans a.size b.size,fun k hk hx=>(b.block k (Nat.lt_of_lt_of_le hk a.size) hx).trans (a.block k hk hx)⟩
theorem Turns.mono {X Y:Nat→Prop} {w w':World} (a:Turns X w w') (h:∀ k,X k→Y k):Turns Y w w':=⟨a.os,a.tape,a.output,a.size,fun k hk hy=>a.block k hk (fun hx=>hy (h k hx))⟩
theorem Turns.mono' {X Y:Nat→Prop} {w w':World} (a:Turns X w w') (h:∀ k,k<w.heap.size→X k→Y k):Turns Y w w':=⟨a.os,a.tape,a.output,a.size,fun k hk hy=>a.block k hk (fun hx=>hy (h k hk hx))⟩
theorem Turns.trans' {X Y:Nat→Prop} {w w1 w2:World} (a:Turns X w w1) (b:Turns Y w1 w2) (h:∀ k,k<w.heap.size→Y k→X k):Turns X w w2:=
  ⟨b.os.trans a.os,b.tape.trans a.tape,b.output.trans a.output,Nat.le_trans a.size b.size,fun k hk hx=>(b.block k (Nat.lt_of_lt_of_le hk a.size) (fun q=>hx (h k hk q))).trans (a.block k hk hx)⟩
theorem Turns.of_grown {X:Nat→Prop} {w w':World} {g:Nat} (h:w.grownBy w' (some g)) (hx:X g):Turns X w w':=
  ⟨h.os,h.tape,h.output,h.size,fun k hk hn=>h.block k hk (fun e=>hn (by cases e;exact hx))⟩
theorem Turns.of_below {X:Nat→Prop} {w w':World} (h:Below w.heap.size w w'):Turns X w w':=⟨h.os,h.tape,h.output,h.size,fun k hk _=>h.block k hk⟩
theorem Turns.below {X:Nat→Prop} {B:Nat} {w w':World} (h:Turns X w w') (hB:B≤w.heap.size) (hx:∀ k,X k→B≤k):Below B w w':=
  ⟨h.os,h.tape,h.output,h.size,fun k hk=>h.block k (Nat.lt_of_lt_of_le hk hB) (fun q=>by have:=hx k q;omega)⟩
theorem Turns.drew {X:Nat→Prop} {w w':World} (h:Turns X w w'):Turns X w w'.drew:=⟨h.os,h.tape,h.output,h.size,h.block⟩
theorem Turns.drewN {X:Nat→Prop} {w w':World} (h:Turns X w w') (n:Nat):Turns X w (w'.drewN n):=⟨h.os,h.tape,h.output,h.size,h.block⟩
theorem Turns.alloc {X:Nat→Prop} {w w':World} (h:Turns X w w') (o:Obj):Turns X w (w'.alloc o):=h.trans (Turns.of_below (Ck w' o))
theorem Turns.setCell {X:Nat→Prop} {w w':World} (h:Turns X w w') {p:Addr} (hp:X p.block) (v:Value):Turns X w (w'.setCell p v):=
  h.trans ⟨rfl,rfl,rfl,by simp [World.setCell],fun k _ hn=>Below.heap_setCell _ _ _ _ (by rintro rfl;exact hn hp)⟩
theorem Turns.blk {X:Nat→Prop} {w w':World} {g:Nat} {e:TypeId} {L:List Value} (t:Turns X w w') (h:Blk w g e L) (hx:¬ X g):Blk w' g e L:=(t.block g h.lt hx).trans h
theorem Turns.row {X:Nat→Prop} {w w':World} {sz:Nat} {a:Ω} {n c:Nat} {cs:List Value} (t:Turns X w w') (h:Row w sz a n c cs) (hx:0<n→∀ b,(∃ off,a=some ⟨b,off,none⟩)→¬ X b):Row w' sz a n c cs:=by
  obtain ⟨h1,h2,h3,h4,h5⟩:=h
  refine ⟨h1,h2,h3,h4,fun hn=>?_⟩
  obtain ⟨b,off,e,hlt,hc⟩:=h5 hn
  refine ⟨b,off,e,Nat.lt_of_lt_of_le hlt t.size,fun j u hu=>?_⟩
  rw [← hc j u hu]
  exact World.cell?_of_block (t.block b hlt (hx hn b ⟨off,e⟩))
theorem Turns.map {X:Nat→Prop} {w w':World} {H:Type} {P:Program} {k:TypeId} {R:Value→Option (DataW H×List MemPlace)} {b n:Nat} {D:DataW H} (t:Turns X w w') (h:w.ownsMap P k R b n D) (hx:¬ X b):w'.ownsMap P k R b n D:=by
  have hlt:=h.lt
  obtain ⟨es,clock,hb,F,hs,hD⟩:=h
  exact ⟨es,clock,(t.block b hlt hx).trans hb,F,hs,hD⟩
theorem Turns.own {X:Nat→Prop} {w w':World} {B:Nat} {e:TypeId} {sz:Nat} {a:Ω} {n c:Nat} {cs:List Value} (t:Turns X w w') (h:Own w B e sz a n c cs) (hx:∀ k,X k→k<B):Own w' B e sz a n c cs:=by
  refine ⟨h.1,?_⟩
  rcases h.2 with hn | ⟨b,cap,cur,hv,hb,hh,rest⟩
  · exact .inl hn
  · exact .inr ⟨b,cap,cur,hv,hb,(t.block b (Array.getElem?_eq_some_iff.1 hh).1 (fun q=>by have:=hx b q;omega)).trans hh,rest⟩
theorem Turns.keepUp {X:Nat→Prop} {B:Nat} {w w':World} (h:Turns X w w') (hx:∀ k,X k→k<B):w.heap.size≤w'.heap.size∧∀ k,B≤k→k<w.heap.size→w'.heap[k]? = w.heap[k]?:=
  ⟨h.size,fun k h1 h2=>h.block k h2 (fun q=>by have:=hx k q;omega)⟩
theorem Df {w:World} {g k:Nat} {e e':TypeId} {L L':List Value} (h:Blk w g e L) (h':Blk w k e' L') (hne:e≠e'):g≠k:=by
  rintro rfl
  unfold Blk at h h'
  rw [h] at h'
  simp only [Option.some.injEq,Obj.cells.injEq] at h'
  exact hne h'.2.1
theorem Ado {w:World} {H:Type} {P:Program} {k:TypeId} {R:Value→Option (DataW H×List MemPlace)} {b n g:Nat} {D:DataW H} {e:TypeId} {L:List Value} (h:w.ownsMap P k R b n D) (h':Blk w g e L):b≠g:=by
  rintro rfl
  obtain ⟨es,clock,hb,_⟩:=h
  unfold Blk at h'
  rw [hb] at h'
  cases h'
def Fo (A:List Bool) (k:Int):Bool:=decide (0≤k)&&A.getD k.toNat false
theorem Ic (A:List Bool) (k:Nat):Fo A (k:Int)=A.getD k false:=by simp [Fo]
def PendP (w:World) (p:Nat) (A:List Bool):Prop:=
  ∃ (D:DataW Unit) (n:Nat),w.ownsMap Tryz.prog 3 unitElem p n D∧(∀ k:Int,Maps.has D (.int .i64 k)=Fo A k)∧Maps.size D=A.count true
theorem PendP.norm {w:World} {p:Nat} {A:List Bool} (h:PendP w p A):∃ D:DataW Unit,w.ownsMap Tryz.prog 3 unitElem p (A.count true) D∧(∀ k:Int,Maps.has D (.int .i64 k)=Fo A k)∧Maps.size D=A.count true:=by
  obtain ⟨D,n,⟨es,clock,hb,F,hs,hD⟩,h1,h2⟩:=h
  refine ⟨D,⟨es,clock,hb,F,?_,hD⟩,h1,h2⟩
  have:Maps.size D=es.size:=by rw [hD];simp [Maps.size,length_sorted]
  omega
theorem Turns.pend {X:Nat→Prop} {w w':World} {p:Nat} {A:List Bool} (t:Turns X w w') (h:PendP w p A) (hx:¬ X p):PendP w' p A:=by
  obtain ⟨D,n,ho,r⟩:=h
  exact ⟨D,n,t.map ho hx,r⟩
theorem Hc:Maps.Keyed Tryz.prog 3:=Maps.int_keyed Tryz.underlying3
theorem Adf (k:Int) (h:(Lit.int .i64 k).wf=true):keyOf Tryz.prog 3 (.int .i64 k)=some (.int .i64 k):=Maps.keyOf_int_mk Tryz.underlying3 h
theorem Add (k:Int) (h:(Lit.int .i64 k).wf=true):WideAt.IsKeyLit (.int .i64 k):=Hc.key (Adf k h)
theorem NK (A:List Bool) (k:Nat) (b:Bool) (hk:k<A.length) (i:Int):Fo (A.set k b) i=if i=k then b else Fo A i:=by
  unfold Fo
  by_cases e:i=k
  · subst e;simp [hk]
  · rw [if_neg e]
    by_cases h0:0≤i
    · simp only [List.getD_eq_getElem?_getD,List.getElem?_set]
      rw [if_neg ω]
    · simp [h0]
theorem Lo (A:List Bool) (k:Nat) (hk:k<A.length):(A.set k true).count true+(if A.getD k false then 1 else 0)=A.count true+1:=by
  rw [List.count_set hk]
  simp [hk]
  cases h:A[k]
  · simp
  · have:0<A.count true:=List.count_pos_iff.2 (h ▸ List.getElem_mem hk)
    simp;omega
theorem KJ (A:List Bool) (k:Nat) (hk:k<A.length):(A.set k false).count true+(if A.getD k false then 1 else 0)=A.count true:=by
  rw [List.count_set hk]
  simp [hk]
  cases h:A[k]
  · simp
  · have:0<A.count true:=List.count_pos_iff.2 (h ▸ List.getElem_mem hk)
    simp;omega
theorem PendP.del {w w':World} {p:Nat} {A:List Bool} {D:DataW Unit} {n k:Nat} (hk:k<A.length) (hw:k≤1000000) (h:w.ownsMap Tryz.prog 3 unitElem p n D) (h1:∀ k:Int,Maps.has D (.int .i64 k)=Fo A k) (h2:Maps.size D=A.count true)
    (h':w'.ownsMap Tryz.prog 3 unitElem p n (D.del (.int .i64 k))):PendP w' p (A.set k false):=by
  refine ⟨_,n,h',fun i=>?_,?_⟩
  · rw [NK A k false hk]
    by_cases e:i=k
    · subst e;rw [if_pos rfl,Maps.has_del_same]
    · rw [if_neg e,Maps.has_del_other (by simpa using e),h1]
  · have h3:=Maps.size_del (k:=.int .i64 (k:Int)) (h.tidy Hc)
    have h4:=KJ A k hk
    rw [h1,Ic] at h3
    omega
theorem PendP.put {w w':World} {p:Nat} {A:List Bool} {D:DataW Unit} {n m k:Nat} (hk:k<A.length) (hw:k≤1000000) (h:w.ownsMap Tryz.prog 3 unitElem p n D) (h1:∀ k:Int,Maps.has D (.int .i64 k)=Fo A k) (h2:Maps.size D=A.count true)
    (h':w'.ownsMap Tryz.prog 3 unitElem p m (D.put (.int .i64 k) (.agg []))):PendP w' p (A.set k true):=by
  have hwf:(Lit.int .i64 (k:Int)).wf=true:=WalkArith.wf_i64 (by omega)
  refine ⟨_,m,h',fun i=>?_,?_⟩
  · rw [NK A k true hk]
    by_cases e:i=k
    · subst e;rw [if_pos rfl,Maps.has_put_same h.isMap (Add _ hwf)]
    · rw [if_neg e,Maps.has_put_other (by simpa using e),h1]
  · have h3:=Maps.size_put (k:=.int .i64 (k:Int)) (h.tidy Hc) (.agg [])
    have h4:=Lo A k hk
    rw [h1,Ic] at h3
    cases h5:A.getD k false<;>simp only [h5,if_true,if_false,Bool.false_eq_true] at h3 h4<;>omega
theorem PendP.made (w:World) (n:Nat):PendP (w.alloc (.map #[] 0)) w.heap.size (EF n fun _=>false):=by
  refine ⟨_,0,World.ownsMap_made w _ _ _,fun k=>?_,?_⟩
  · have:Fo (EF n fun _=>false) k=false:=by
      unfold Fo EF
      simp only [Bool.and_eq_false_iff]
      right
      simp only [List.getD_eq_getElem?_getD,List.getElem?_map]
      cases (List.range n)[k.toNat]?<;>rfl
    rw [this];rfl
  · have:(EF n fun _=>false).count true=0:=by
      rw [List.count_eq_zero];simp [EF]
    rw [this];rfl
def MemP (w:World) (g v d p:Nat) (M:MemM):Prop:=
  M.ok∧v≠d∧Blk w g 57 [.slice (some ⟨v,0,none⟩) M.V.length M.V.length,.slice (some ⟨d,0,none⟩) M.V.length M.V.length,.map (some p)] ∧
    Blk w v 5 (M.V.map Ad)∧Blk w d 5 (M.D.map Ad)∧PendP w p M.A
theorem MemP.turns {X:Nat→Prop} {w w':World} {g v d p:Nat} {M:MemM} (h:MemP w g v d p M) (t:Turns X w w') (hg:¬ X g) (hv:¬ X v) (hd:¬ X d) (hp:¬ X p):MemP w' g v d p M:=
  ⟨h.1,h.2.1,t.blk h.2.2.1 hg,t.blk h.2.2.2.1 hv,t.blk h.2.2.2.2.1 hd,t.pend h.2.2.2.2.2 hp⟩
theorem OS {w:World} {p g:Nat} {A:List Bool} {e:TypeId} {L:List Value} (h:PendP w p A) (h':Blk w g e L):p≠g:=by
  obtain ⟨D,n,ho,_⟩:=h
  exact Ado ho h'
theorem Aa7 {w:World} {p:Nat} {A:List Bool} (h:PendP w p A):p<w.heap.size:=by
  obtain ⟨D,n,ho,_⟩:=h
  exact ho.lt
theorem CQ {w:World} {g v d p:Nat} {M:MemM} (h:MemP w g v d p M):v≠d∧g≠v∧g≠d∧p≠g∧p≠v∧p≠d∧g<w.heap.size∧v<w.heap.size∧d<w.heap.size∧p<w.heap.size:=by
  obtain ⟨_,h1,h2,h3,h4,h5⟩:=h
  exact ⟨h1,Df h2 h3 (by decide),Df h2 h4 (by decide),OS h5 h2,OS h5 h3,OS h5 h4,h2.lt,h3.lt,h4.lt,Aa7 h5⟩
end
section
structure Ch where
  F:Nat→Prop
  P:World→Prop
  keep:∀ {w w':World},P w→Turns (fun b=>¬ F b) w w'→P w'
  lt:∀ {w:World},P w→∀ b,F b→b<w.heap.size
structure Sep (w:World) (cs:List Ch):Prop where
  all:∀ (i:Nat) (c:Ch),cs[i]? = some c→c.P w
  ap:∀ (i j:Nat) (c d:Ch),i≠j→cs[i]? = some c→cs[j]? = some d→∀ b,c.F b→d.F b→False
theorem Sep.get {w:World} {cs:List Ch} (h:Sep w cs) (i:Nat) {c:Ch} (hi:cs[i]? = some c):c.P w:=h.all i c hi
theorem Sep.nil (w:World):Sep w []:=⟨fun i c h=>by simp at h,fun i j c d _ h=>by simp at h⟩
theorem Sep.turns {w w':World} {cs:List Ch} (h:Sep w cs) {X:Nat→Prop} (t:Turns X w w') (hX:∀ k,k<w.heap.size→X k→∀ (i:Nat) (c:Ch),cs[i]? = some c→¬ c.F k):Sep w' cs:=
  ⟨fun i c hi=>c.keep (h.all i c hi) (t.mono' fun k hk hx=>hX k hk hx i c hi),h.ap⟩
theorem Sep.mono {w w':World} {cs:List Ch} (h:Sep w cs) (b:Below w.heap.size w w'):Sep w' cs:=h.turns (X:=fun _=>False) (Turns.of_below b) (fun _ _ e=>e.elim)
theorem Sep.drew {w:World} {cs:List Ch} (h:Sep w cs):Sep w.drew cs:=h.mono (Below.refl _ _).drew
theorem Sep.upd {w w':World} {cs:List Ch} (h:Sep w cs) (i:Nat) {c:Ch} (hi:cs[i]? = some c) {X:Nat→Prop} (t:Turns X w w') (hX:∀ k,k<w.heap.size→X k→c.F k) {c':Ch} (hc:c'.P w') (hF:∀ k,c'.F k→c.F k∨w.heap.size≤k):Sep w' (cs.set i c'):=by
  have hil:i<cs.length:=(List.getElem?_eq_some_iff.1 hi).1
  have hset:∀ (j:Nat) (d:Ch),(cs.set i c')[j]? = some d→(j=i∧d=c')∨(j≠i∧cs[j]? = some d):=by
    intro j d hj
    rw [List.getElem?_set] at hj
    split at hj
    · subst_vars;(try rw [if_pos hil] at hj);cases hj;exact .inl ⟨rfl,rfl⟩
    · rename_i hne;exact .inr ⟨fun e=>hne e.symm,hj⟩
  refine ⟨fun j d hj=>?_,fun j k d e hjk hj hk b hd he=>?_⟩
  · rcases hset j d hj with ⟨_,rfl⟩ | ⟨hne,hj⟩
    · exact hc
    · exact d.keep (h.all j d hj) (t.mono' fun k hk hx hd=>h.ap i j c d (fun e=>hne e.symm) hi hj k (hX k hk hx) hd)
  · rcases hset j d hj with ⟨hj1,hj2⟩ | ⟨hnj,hj'⟩
    · rcases hset k e hk with ⟨hk1,hk2⟩ | ⟨hnk,hk'⟩
      · exact hjk (hj1.trans hk1.symm)
      · rw [hj2] at hd
        rcases hF b hd with q | q
        · exact h.ap i k c e (fun q=>hjk (hj1.trans q)) hi hk' b q he
        · have:=e.lt (h.all k e hk') b he;omega
    · rcases hset k e hk with ⟨hk1,hk2⟩ | ⟨hnk,hk'⟩
      · rw [hk2] at he
        rcases hF b he with q | q
        · exact h.ap i j c d (fun q=>hjk (q.symm.trans hk1.symm)) hi hj' b q hd
        · have:=d.lt (h.all j d hj') b hd;omega
      · exact h.ap j k d e hjk hj' hk' b hd he
theorem Sep.push {w w':World} {cs:List Ch} (h:Sep w cs) (b:Below w.heap.size w w') {c:Ch} (hc:c.P w') (hF:∀ k,c.F k→w.heap.size≤k):Sep w' (c::cs):=by
  have h':=h.mono b
  refine ⟨fun i d hi=>?_,fun i j d e hij hi hj k hd he=>?_⟩
  · cases i with
    | zero=>cases hi;exact hc
    | succ i=>exact h'.all i d (by simpa using hi)
  · cases i with
    | zero=>
      cases hi
      cases j with
      | zero=>exact hij rfl
      | succ j=>have:=e.lt (h.all j e (by simpa using hj)) k he;have:=hF k hd;omega
    | succ i=>
      cases j with
      | zero=>cases hj;have:=d.lt (h.all i d (by simpa using hi)) k hd;have:=hF k he;omega
      | succ j=>exact h'.ap i j d e (fun q=>hij (by rw [q])) (by simpa using hi) (by simpa using hj) k hd he
theorem Sep.pick {w:World} {cs out:List Ch} (h:Sep w cs) (is:List Nat) (hn:is.Nodup) (hc:is.map (fun i=>cs[i]?)=out.map some):Sep w out:=by
  have key:∀ (i:Nat) (c:Ch),out[i]? = some c→∃ k,is[i]? = some k∧cs[k]? = some c:=by
    intro i c hi
    have e:(is.map (fun i=>cs[i]?))[i]? = (out.map some)[i]?:=by rw [hc]
    rw [List.getElem?_map,List.getElem?_map,hi] at e
    cases hk:is[i]? with
    | none=>rw [hk] at e;cases e
    | some k=>rw [hk] at e;exact ⟨k,rfl,by simpa using e⟩
  refine ⟨fun i c hi=>?_,fun i j c d hij hi hj b hd he=>?_⟩
  · obtain ⟨k,_,hk⟩:=key i c hi;exact h.all k c hk
  · obtain ⟨k,h1,hk⟩:=key i c hi
    obtain ⟨m,h2,hm⟩:=key j d hj
    refine h.ap k m c d (fun e=>?_) hk hm b hd he
    subst e
    obtain ⟨l1,q1⟩:=List.getElem?_eq_some_iff.1 h1
    obtain ⟨l2,q2⟩:=List.getElem?_eq_some_iff.1 h2
    exact hij ((List.getElem_inj (h₀:=l1) (h₁:=l2) hn).1 (q1.trans q2.symm))
def Ch.many (cs:List Ch):Ch where
  F b:=∃ (i:Nat) (c:Ch),cs[i]? = some c∧c.F b
  P w:=Sep w cs
  keep h t:=h.turns t (fun k _ hk i c hi hF=>hk ⟨i,c,hi,hF⟩)
  lt h b:=fun ⟨i,c,hi,hF⟩=>c.lt (h.all i c hi) b hF
theorem Sep.tail_many {w:World}:∀ {xs R:List Ch},Sep w (xs++R)→Sep w (xs++[Ch.many R]):=by
  intro xs R h
  have hl:∀ (i:Nat) (c:Ch),(xs++[Ch.many R])[i]? = some c→xs[i]? = some c∨(i=xs.length∧c=Ch.many R):=by
    intro i c hi
    rcases Nat.lt_trichotomy i xs.length with q | q | q
    · rw [List.getElem?_append_left q] at hi;exact .inl hi
    · subst q;rw [List.getElem?_append_right (Nat.le_refl _),Nat.sub_self] at hi;cases hi;exact .inr ⟨rfl,rfl⟩
    · rw [List.getElem?_append_right ω] at hi
      have:i-xs.length≠0:=ω
      obtain ⟨n,hn⟩:=Nat.exists_eq_succ_of_ne_zero this
      rw [hn] at hi;simp at hi
  have hL:∀ (i:Nat) (c:Ch),xs[i]? = some c→(xs++R)[i]? = some c:=fun i c hi=>by rw [List.getElem?_append_left (List.getElem?_eq_some_iff.1 hi).1];exact hi
  have hR:∀ (i:Nat) (c:Ch),R[i]? = some c→(xs++R)[xs.length+i]? = some c:=fun i c hi=>by rw [List.getElem?_append_right ω,Nat.add_sub_cancel_left];exact hi
  refine ⟨fun i c hi=>?_,fun i j c d hij hi hj b hc hd=>?_⟩
  · rcases hl i c hi with q | ⟨_,rfl⟩
    · exact h.all i c (hL i c q)
    · exact ⟨fun j d hj=>h.all _ d (hR j d hj),fun j k d e hjk hj hk b=>h.ap _ _ d e ω (hR j d hj) (hR k e hk) b⟩
  · rcases hl i c hi with q | ⟨rfl,rfl⟩<;>rcases hl j d hj with r | ⟨rfl,rfl⟩
    · exact h.ap i j c d hij (hL i c q) (hL j d r) b hc hd
    · obtain ⟨k,e,hk,he⟩:=hd
      have:=(List.getElem?_eq_some_iff.1 q).1
      exact h.ap i _ c e ω (hL i c q) (hR k e hk) b hc he
    · obtain ⟨k,e,hk,he⟩:=hc
      have:=(List.getElem?_eq_some_iff.1 r).1
      exact h.ap _ j e d ω (hR k e hk) (hL j d r) b he hd
    · exact hij rfl
theorem Sep.tail_un {w:World}:∀ {xs R:List Ch},Sep w (xs++[Ch.many R])→Sep w (xs++R):=by
  intro xs R h
  have hM:(xs++[Ch.many R])[xs.length]? = some (Ch.many R):=by rw [List.getElem?_append_right (Nat.le_refl _),Nat.sub_self];rfl
  have hs:Sep w R:=h.all _ _ hM
  have hl:∀ (i:Nat) (c:Ch),(xs++R)[i]? = some c→(xs[i]? = some c∧i<xs.length)∨(xs.length≤i∧R[i-xs.length]? = some c):=by
    intro i c hi
    rcases Nat.lt_or_ge i xs.length with q | q
    · rw [List.getElem?_append_left q] at hi;exact .inl ⟨hi,q⟩
    · rw [List.getElem?_append_right q] at hi;exact .inr ⟨q,hi⟩
  have hL:∀ (i:Nat) (c:Ch),xs[i]? = some c→(xs++[Ch.many R])[i]? = some c:=fun i c hi=>by rw [List.getElem?_append_left (List.getElem?_eq_some_iff.1 hi).1];exact hi
  refine ⟨fun i c hi=>?_,fun i j c d hij hi hj b hc hd=>?_⟩
  · rcases hl i c hi with ⟨q,_⟩ | ⟨_,q⟩
    · exact h.all i c (hL i c q)
    · exact hs.all _ c q
  · rcases hl i c hi with ⟨q,q1⟩ | ⟨q1,q⟩<;>rcases hl j d hj with ⟨r,r1⟩ | ⟨r1,r⟩
    · exact h.ap i j c d hij (hL i c q) (hL j d r) b hc hd
    · exact h.ap i xs.length c _ ω (hL i c q) hM b hc ⟨_,d,r,hd⟩
    · exact h.ap xs.length j _ d ω hM (hL j d r) b ⟨_,c,q,hc⟩ hd
    · exact hs.ap _ _ c d ω q r b hc hd
theorem Sep.cons {w:World} {c:Ch} {cs:List Ch} (hc:c.P w) (h:Sep w cs) (ha:∀ (i:Nat) (d:Ch),cs[i]? = some d→∀ b,c.F b→d.F b→False):Sep w (c::cs):=by
  refine ⟨fun i d hi=>?_,fun i j d e hij hi hj k hd he=>?_⟩
  · cases i with
    | zero=>cases hi;exact hc
    | succ i=>exact h.all i d (by simpa using hi)
  · cases i with
    | zero=>
      cases hi
      cases j with
      | zero=>exact hij rfl
      | succ j=>exact ha j e (by simpa using hj) k hd he
    | succ i=>
      cases j with
      | zero=>cases hj;exact ha i d (by simpa using hi) k he hd
      | succ j=>exact h.ap i j d e (fun q=>hij (by rw [q])) (by simpa using hi) (by simpa using hj) k hd he
theorem Sep.left {w:World} {A R:List Ch} (h:Sep w (A++R)):Sep w A:=
  ⟨fun i c hi=>h.all i c (by rw [List.getElem?_append_left (List.getElem?_eq_some_iff.1 hi).1];exact hi),fun i j c d hij hi hj=>h.ap i j c d hij (by rw [List.getElem?_append_left (List.getElem?_eq_some_iff.1 hi).1];exact hi) (by rw [List.getElem?_append_left (List.getElem?_eq_some_iff.1 hj).1];exact hj)⟩
theorem Sep.right {w:World} {A R:List Ch} (h:Sep w (A++R)):Sep w R:=
  ⟨fun i c hi=>h.all (A.length+i) c (by rw [List.getElem?_append_right ω,Nat.add_sub_cancel_left];exact hi),fun i j c d hij hi hj=>h.ap (A.length+i) (A.length+j) c d ω (by rw [List.getElem?_append_right ω,Nat.add_sub_cancel_left];exact hi) (by rw [List.getElem?_append_right ω,Nat.add_sub_cancel_left];exact hj)⟩
def Dh (w0:World) (B:Nat):Ch where
  F b:=b<B
  P w:=Below B w0 w∧B≤w0.heap.size
  keep h t:=⟨h.1.trans (t.below (Nat.le_trans h.2 h.1.size) (fun k hk=>Nat.le_of_not_lt hk)),h.2⟩
  lt h b hb:=Nat.lt_of_lt_of_le (Nat.lt_of_lt_of_le hb h.2) h.1.size
theorem Sep.start (w:World):Sep w [Dh w w.heap.size]:=
  ⟨fun i c hi=>by cases i with
    | zero=>cases hi;exact ⟨Below.refl _ _,Nat.le_refl _⟩
    | succ i=>simp at hi,fun i j c d hij hi hj=>by cases i with
    | zero=>cases j with
      | zero=>exact absurd rfl hij
      | succ j=>simp at hj
    | succ i=>simp at hi⟩
def Ab (g:Nat) (e:TypeId) (L:List Value):Ch where
  F b:=b=g
  P w:=Blk w g e L
  keep h t:=t.blk h (fun q=>q rfl)
  lt h b hb:=hb ▸ h.lt
def AG (B:Nat) (e:TypeId) (sz:Nat) (a:Ω) (n c:Nat) (cs:List Value):Ch where
  F b:=(Value.slice a n c).ownBlock=some b
  P w:=Own w B e sz a n c cs
  keep {w w'} h t:=by
    obtain ⟨h0,h1⟩:=h
    refine ⟨h0,?_⟩
    rcases h1 with h1 | ⟨g,cap,cur,hv,hg,hh,h1⟩
    · exact .inl h1
    · refine .inr ⟨g,cap,cur,hv,hg,(t.block g (Array.getElem?_eq_some_iff.1 hh).1 (fun hn=>hn ?_)).trans hh,h1⟩
      rw [hv];rfl
  lt h b hb:=(World.ownsRow.lt h b hb).2
end
section
theorem wf_i64 {n:Int} (h1:-9223372036854775808≤n) (h2:n≤9223372036854775807):(Lit.int .i64 n).wf=true:=by
  simp [Lit.wf,IntKind.min,IntKind.max,IntKind.signed,IntKind.bits];omega
def opv (l:List (Nat×Value)):Operand→Option Value
  | .tmp k=>(l.find? fun y=>y.1 == k).map (·.2)
  | .const v=>some v
  | .global g=>some (.pointer (some ⟨g,0,none⟩))
  | .func f=>some (.func (.func f) #[] #[])
theorem Kn.op {N:Nat} {l:List (Nat×Value)} {a:Act} (h:Kn N l a) {x:Operand} {v:Value} (hx:opv l x=some v):a.eval x=v:=by
  cases x with
  | tmp k=>
    cases hf:l.find? (fun y=>y.1 == k) with
    | none=>simp [opv,hf] at hx
    | some y=>
      have he:y.1=k:=by simpa using List.find?_some hf
      simp [opv,hf] at hx
      subst hx
      exact h.eval (k:=k) (by have:=List.mem_of_find?_eq_some hf;rw [← he];exact this)
  | const v'=>simp [opv] at hx;subst hx;rfl
  | global g=>simp [opv] at hx;subst hx;rfl
  | func f=>simp [opv] at hx;subst hx;rfl
theorem Kn.ops {N:Nat} {l:List (Nat×Value)} {a:Act} (h:Kn N l a) {xs:List Operand} {vs:List Value} (hx:xs.map (opv l)=vs.map some):xs.toArray.map a.eval=vs.toArray:=by
  rw [List.map_toArray]
  congr 1
  induction xs generalizing vs with
  | nil=>cases vs with
    | nil=>rfl
    | cons v vs=>simp at hx
  | cons x xs ih=>cases vs with
    | nil=>simp at hx
    | cons v vs=>
      simp only [List.map_cons,List.cons.injEq] at hx ⊢
      exact ⟨h.op hx.1,ih hx.2⟩
theorem Kn.parts {N:Nat} {l:List (Nat×Value)} {a:Act} (h:Kn N l a) {xs:List (Nat×Operand)} {vs:List (Nat×Value)} (hx:xs.map (fun p=>(p.1,opv l p.2))=vs.map (fun p=>(p.1,some p.2))):xs.toArray.map (fun p=>(p.1,a.eval p.2))=vs.toArray:=by
  rw [List.map_toArray]
  congr 1
  induction xs generalizing vs with
  | nil=>cases vs with
    | nil=>rfl
    | cons v vs=>simp at hx
  | cons x xs ih=>cases vs with
    | nil=>simp at hx
    | cons v vs=>
      simp only [List.map_cons,List.cons.injEq,Prod.mk.injEq] at hx ⊢
      exact ⟨by rw [h.op hx.1.2,hx.1.1],ih hx.2⟩
def CallsR (P:Program) (f:FuncId) (args:Array Value) (w:World) (R:Value→World→Prop):Prop:=Calls P f args w fun e w'=>∃ v,e=.returned v∧R v w'
theorem CallsR.mono {P:Program} {f:FuncId} {args:Array Value} {w:World} {R R':Value→World→Prop} (h:CallsR P f args w R) (k:∀ v w',R v w'→R' v w'):CallsR P f args w R':=Calls.mono h (fun e w' ⟨v,e1,r⟩=>⟨v,e1,k v w' r⟩)
theorem CallsR.ret {P:Program} {f:FuncId} {args:Array Value} {w:World} {v:Value} {R:World→Prop} (h:Calls P f args w fun e w'=>e=.returned v∧R w'):CallsR P f args w fun v' w'=>v'=v∧R w':=Calls.mono h (fun e w' ⟨e1,r⟩=>⟨v,e1,rfl,r⟩)
section
variable {P:Program} {ops:Array Oper} {Q:Exit→Act→World→Prop} {md:Region.Mode} {S:World→Prop} {o:Oper} {rest:List Oper} {fuel:Nat} {listed:Array Bool} {a:Act} {w w':World} {N:Nat} {l:List (Nat×Value)} {K:Act→World→Prop}
theorem wg (h:Kn N l a) {g prev:Nat} {want b r:Bool} (hg:o.guard=some (g,want)) (hp:(ops[g]?).bind (·.dst)=some prev) (hm:l.find? (fun y=>y.1 == prev)=some (prev,.bool b)) (hb:(b == want)=r):Region.wanted o (yielded ops a.tmps)=r:=by
  rw [Ae hg (h.yields hp (List.mem_of_find?_eq_some hm))];exact hb
theorem wgu (h:Kn N l a) {g prev:Nat} {want:Bool} (hg:o.guard=some (g,want)) (hp:(ops[g]?).bind (·.dst)=some prev) (hm:l.find? (fun y=>y.1 == prev)=some (prev,undef)):Region.wanted o (yielded ops a.tmps)=false:=by
  unfold Region.wanted
  rw [hg]
  have:=h.known _ (List.mem_of_find?_eq_some hm)
  have e:yielded ops a.tmps g=none:=by
    unfold yielded
    rw [hp,Option.bind_some]
    show (match a.tmps[prev]? with | some (.bool b)=>some b | _=>none)=none
    rw [this];rfl
  simp [e]
theorem sv (h:Kn N l a) (hw:Region.wanted o (yielded ops a.tmps)=true) {d:Nat} (hd:o.dst=some d) (hdN:decide (d<N)=true) (hf:l.all (fun x=>!(x.1 == d))=true) {v:Value}
    (hr:∀ w,(execOp a.eval o).run P w=.ok (.value v) w) (k:∀ a',Kn N ((d,v)::l) a'→wpList P ops Q rest a' w):wpList P ops Q (o::rest) a w:=
  Ak h hw hd (of_decide_eq_true hdN) (fr hf) v (hr w) k
theorem sw (h:Kn N l a) (hw:Region.wanted o (yielded ops a.tmps)=true) {d:Nat} (hd:o.dst=some d) (hdN:decide (d<N)=true) (hf:l.all (fun x=>!(x.1 == d))=true) {v:Value}
    (hr:(execOp a.eval o).run P w=.ok (.value v) w) (k:∀ a',Kn N ((d,v)::l) a'→wpList P ops Q rest a' w):wpList P ops Q (o::rest) a w:=
  Ak h hw hd (of_decide_eq_true hdN) (fr hf) v hr k
theorem su (h:Kn N l a) (hw:Region.wanted o (yielded ops a.tmps)=false) {d:Nat} (hd:o.dst=some d) (hdN:decide (d<N)=true) (hf:l.all (fun x=>!(x.1 == d))=true)
    (k:∀ a',Kn N ((d,undef)::l) a'→wpList P ops Q rest a' w):wpList P ops Q (o::rest) a w:=Bf h hw hd (of_decide_eq_true hdN) (fr hf) k
theorem so (hw:Region.wanted o (yielded ops a.tmps)=true) (k:∀ K:Act→World→Prop,(∀ a w,wpList P ops Q rest a w→K a w)→o.wp P a w K Q):wpList P ops Q (o::rest) a w:=by
  refine wpList_step fun K hK=>?_
  rw [if_pos hw]
  exact k K hK
theorem tv (hS:S w) (h:Kn N l a) (i:Nat) (hi:ops[i]? = some o) {d:Nat} (hd:o.dst=some d) (hdN:decide (d<N)=true) (hf:l.all (fun x=>!(x.1 == d))=true)
    (hs:Region.noSelect ops=true) (hfr:Region.free md ops listed i=true) (hr:(Region.ready md ops listed).contains i=true) (hQ:∀ c a w v,Q (.panic c) (a.put o.dst v) w→Q (.panic c) a w) (hw:Region.wanted o (yielded ops a.tmps)=true) {v:Value} (hy:∀ w1,S w1→(execOp a.eval o).run P w1=.ok (.value v) w1)
    (k:∀ a',Kn N ((d,v)::l) a'→wpAnyH P md ops Q S fuel (listed.setIfInBounds i true) a' w):wpAnyH P md ops Q S (fuel+1) listed a w:=
  JC hS h i hi hd (of_decide_eq_true hdN) (fr hf) hs hfr hr hQ v (.inl ⟨hw,hy⟩) k
theorem to_ (i:Nat) (hi:ops[i]? = some o) (hw:Region.wanted o (yielded ops a.tmps)=true) (hr:Region.ready md ops listed=[i])
    (k:∀ K:Act→World→Prop,(∀ a' w',S w'→(S w'→wpAnyH P md ops Q S fuel (listed.setIfInBounds i true) a' w')→K a' w')→Oper.wp P o a w K Q):wpAnyH P md ops Q S (fuel+1) listed a w:=
  wpAnyH_ready hr (by simp) (AllReadyH.cons hi (fun K hK=>by
    rw [if_pos hw]
    exact k K (Shut.out hK)) AllReadyH.nil)
theorem toc {i:Nat} {rs:List Nat} (hi:ops[i]? = some o) (hw:Region.wanted o (yielded ops a.tmps)=true) (k:∀ K:Act→World→Prop,(∀ a' w',S w'→(S w'→wpAnyH P md ops Q S fuel (listed.setIfInBounds i true) a' w')→K a' w')→Oper.wp P o a w K Q)
    (hs:AllReadyH P md ops Q S fuel listed a w rs):AllReadyH P md ops Q S fuel listed a w (i::rs):=
  AllReadyH.cons hi (fun K hK=>by rw [if_pos hw];exact k K (Shut.out hK)) hs
abbrev gv (C:Bool) (v:Value):Value:=if C=true then v else undef
theorem opg {l:List (Nat×Value)} {x:Operand} {C:Bool} {v:Value} (hx:opv l x=some (gv C v)) (hC:C=true):opv l x=some v:=by rw [hx,gv,if_pos hC]
theorem wT (h:Kn N l a) {g prev:Nat} {E:Bool} (hg:o.guard=some (g,true)) (hp:(ops[g]?).bind (·.dst)=some prev) (hm:l.find? (fun y=>y.1 == prev)=some (prev,.bool E)):Region.wanted o (yielded ops a.tmps)=E:=wg h hg hp hm (by cases E<;>rfl)
theorem wF (h:Kn N l a) {g prev:Nat} {E:Bool} (hg:o.guard=some (g,false)) (hp:(ops[g]?).bind (·.dst)=some prev) (hm:l.find? (fun y=>y.1 == prev)=some (prev,.bool E)):Region.wanted o (yielded ops a.tmps)=!E:=wg h hg hp hm (by cases E<;>rfl)
theorem sg (h:Kn N l a) {C:Bool} (hw:Region.wanted o (yielded ops a.tmps)=C) {d:Nat} (hd:o.dst=some d) (hdN:decide (d<N)=true) (hf:l.all (fun x=>!(x.1 == d))=true) {v:Value}
    (hr:C=true→(execOp a.eval o).run P w=.ok (.value v) w) (k:∀ a',Kn N ((d,gv C v)::l) a'→wpList P ops Q rest a' w):wpList P ops Q (o::rest) a w:=by
  cases C
  · exact su h hw hd hdN hf k
  · exact sw h hw hd hdN hf (hr rfl) k
theorem Zy {a b:Bool} (h:(a&&b)=true):a=true∧b=true:=by cases a<;>cases b<;>simp_all
theorem Aeq {a b:Bool} (h:(a&&b)=false):a=false∨b=false:=by cases a<;>cases b<;>simp_all
theorem orT {a b:Bool} (h:(a||b)=true):a=true∨b=true:=by cases a<;>cases b<;>simp_all
theorem orF {a b:Bool} (h:(a||b)=false):a=false∧b=false:=by cases a<;>cases b<;>simp_all
theorem Kf {a:Bool} (h:(!a)=true):a=false:=by cases a<;>simp_all
theorem Lk {a:Bool} (h:a=true):(!a)=false:=by subst h;rfl
theorem Lj {a:Bool} (h:a=false):(!a)=true:=by subst h;rfl
theorem Ke {a:Bool} (h:(!a)=false):a=true:=by cases a<;>simp_all
theorem Au (h:Kn N l a) {x:Operand} (ho:o.op=.move x) {v:Value} (hx:opv l x=some v) (w:World):(execOp a.eval o).run P w=.ok (.value v) w:=by
  unfold execOp;rw [ho];simp only [h.op hx];rfl
theorem Bv (h:Kn N l a) {x:Operand} (ho:o.op=.assign x) {v:Value} (hx:opv l x=some v) (w:World):(execOp a.eval o).run P w=.ok (.value v) w:=by
  unfold execOp;rw [ho];simp only [h.op hx];rfl
theorem Hl (h:Kn N l a) {x:Operand} (ho:o.op=.nilCheck x) {p:Addr} (hx:opv l x=some (.pointer (some p))) (w:World):(execOp a.eval o).run P w=.ok (.value (.pointer (some p))) w:=by
  unfold execOp;rw [ho];simp only [h.op hx];rfl
theorem Afv (h:Kn N l a) {x:Operand} (ho:o.op=.nilCheck x) {f:FuncId} {xs ys:Array Value} (hx:opv l x=some (.func (.func f) xs ys)) (w:World):(execOp a.eval o).run P w=.ok (.value (.func (.func f) xs ys)) w:=by
  unfold execOp;rw [ho];simp only [h.op hx];rfl
theorem OY (h:Kn N l a) {x:Operand} {i:Nat} (ho:o.op=.extract x i) {vs:Array Value} {v:Value} (hx:opv l x=some (.tuple vs)) (hi:vs[i]? = some v) (w:World):(execOp a.eval o).run P w=.ok (.value v) w:=by
  unfold execOp;rw [ho];simp only [h.op hx,Instr.extract,hi];rfl
theorem rfa (h:Kn N l a) {x:Operand} {T:TypeId} {f:Nat} (ho:o.op=.fieldAddr T x f) {v u:Value} (hx:opv l x=some v) (hf:∀ w,(Instr.fieldAt T v f).run P w=.ok u w) (w:World):(execOp a.eval o).run P w=.ok (.value u) w:=by
  unfold execOp;rw [ho];simp only [h.op hx];exact Af (hf w)
theorem rld (h:Kn N l a) {x:Operand} {T:TypeId} (ho:o.op=.load T x) {v u:Value} (hx:opv l x=some v) {w:World} (hf:(Instr.loadAt T v).run P w=.ok u w):(execOp a.eval o).run P w=.ok (.value u) w:=by
  unfold execOp;rw [ho];simp only [h.op hx];exact Af hf
theorem Co (h:Kn N l a) {x y:Operand} {b:BinOp} {T ty:TypeId} (ho:o.op=.binOp b T x y ty) {v u z:Value} (hx:opv l x=some v) (hy:opv l y=some u) (hf:∀ w,(do eqGuard b T x y v u;binOp b T v u:Sem Value).run P w=.ok z w) (w:World):(execOp a.eval o).run P w=.ok (.value z) w:=by
  unfold execOp;rw [ho];simp only [h.op hx,h.op hy];exact Af (hf w)
theorem Aeb (h:Kn N l a) {x:Operand} {T:TypeId} (ho:o.op=.unOp .not T x) {b:Bool} (hx:opv l x=some (.bool b)) (w:World):(execOp a.eval o).run P w=.ok (.value (.bool !b)) w:=by
  unfold execOp;rw [ho];simp only [h.op hx];rfl
theorem BA (h:Kn N l a) {c x y:Operand} (ho:o.op=.pick c x y) {b:Bool} {v:Value} (hc:opv l c=some (.bool b)) (hv:(if b=true then opv l x else opv l y)=some v) (w:World):(execOp a.eval o).run P w=.ok (.value v) w:=by
  refine BR ho (h.op hc) ?_
  cases b
  · exact h.op hv
  · exact h.op hv
theorem YK (h:Kn N l a) {c x y:Operand} (ho:o.op=.pick c x y) {E b:Bool} {v:Value} (hc:opv l c=some (.bool E)) (e:E=b) (hv:(if b=true then opv l x else opv l y)=some v) (w:World):(execOp a.eval o).run P w=.ok (.value v) w:=by
  subst e;exact BA h ho hc hv w
theorem Hm (h:Kn N l a) {c x y:Operand} (ho:o.op=.pick c x y) {E F:Bool} {u:Value} (hc:opv l c=some (.bool E)) (hx:opv l x=some (.bool true)) (hy:opv l y=some u) (hF:E=false→u=.bool F) (w:World):(execOp a.eval o).run P w=.ok (.value (.bool (E||F))) w:=by
  refine BA h ho hc ?_ w
  cases E
  · simp [hy,hF]
  · simp [hx]
theorem SQ (h:Kn N l a) {c x y:Operand} (ho:o.op=.pick c x y) {E F:Bool} {u:Value} (hc:opv l c=some (.bool E)) (hx:opv l x=some u) (hy:opv l y=some (.bool false)) (hF:E=true→u=.bool F) (w:World):(execOp a.eval o).run P w=.ok (.value (.bool (E&&F))) w:=by
  refine BA h ho hc ?_ w
  cases E
  · simp [hy]
  · simp [hx,hF]
theorem Ad4 (h:Kn N l a) {T:TypeId} {xs:List (Nat×Operand)} (ho:o.op=.build T xs.toArray) {vs:List (Nat×Value)} {v:Value} (hx:xs.map (fun p=>(p.1,opv l p.2))=vs.map (fun p=>(p.1,some p.2))) (hv:∀ w,(Instr.build T vs.toArray).run P w=.ok v w) (w:World):(execOp a.eval o).run P w=.ok (.value v) w:=by
  unfold execOp;rw [ho];simp only [h.parts hx];exact Af (hv w)
theorem Eo (h:Kn N l a) {x i:Operand} {T:TypeId} (ho:o.op=.indexAddr T x i) {v u z:Value} (hx:opv l x=some v) (hi:opv l i=some u) (hf:∀ w,(Instr.indexAt T v u).run P w=.ok z w) (w:World):(execOp a.eval o).run P w=.ok (.value z) w:=by
  unfold execOp;rw [ho];simp only [h.op hx,h.op hi];exact Af (hf w)
theorem Mp (h:Kn N l a) {b:Builtin} {xs:List Operand} {ts:Array TypeId} (ho:o.op=.call { callee:=.builtin b,args:=xs.toArray,argTypes:=ts }) {vs:List Value} (hx:xs.map (opv l)=vs.map some) {v:Value} {w w':World} (hf:∀ cs,(builtin b ts o.type cs vs.toArray).run P w=.ok (.value v) w'):(execOp a.eval o).run P w=.ok (.value v) w':=by
  unfold execOp;rw [ho]
  simp only [resolve,h.ops hx,invoke]
  exact hf _
theorem Jt (h:Kn N l a) {x:Operand} {T E:TypeId} (ho:o.op=.call { callee:=.builtin .len,args:=#[x],argTypes:=#[T] }) {p:Ω} {n c:Nat} (hx:opv l x=some (.slice p n c)) (hu:P.underlying T=some (.slice E)) (w:World):(execOp a.eval o).run P w=.ok (.value (ν (n:Int))) w:=by
  refine Mp h (xs:=[x]) (vs:=[.slice p n c]) ho (by simp [hx]) fun cs=>?_
  simp [builtin,Builtin.len_,underlying,hu,Sem.run_bind]
  rfl
theorem Aft (h:Kn N l a) {x:Operand} {T:TypeId} (ho:o.op=.call { callee:=.builtin .len,args:=#[x],argTypes:=#[T] }) {s:ByteArray} (hx:opv l x=some (.string s)) (hu:P.underlying T=some .string) (w:World):(execOp a.eval o).run P w=.ok (.value (ν (s.size:Int))) w:=by
  refine Mp h (xs:=[x]) (vs:=[.string s]) ho (by simp [hx]) fun cs=>?_
  simp [builtin,Builtin.len_,underlying,hu,Sem.run_bind]
  rfl
theorem bI (b:BinOp) (T:TypeId) (x y:Operand) (k:IntKind) (i j:Int) {z:Value} (hz:(match b with | .eql=>some (Value.bool (i == j)) | .neq=>some (.bool (i != j)) | .lss=>some (.bool (decide (i<j))) | .leq=>some (.bool (decide (i≤j))) | .gtr=>some (.bool (decide (i>j))) | .geq=>some (.bool (decide (i≥j))) | .add=>some (.int k (k.wrap (i+j))) | .sub=>some (.int k (k.wrap (i-j))) | .mul=>some (.int k (k.wrap (i*j))) | _=>none)=some z) (w:World) :
    (do eqGuard b T x y (.int k i) (.int k j);binOp b T (.int k i) (.int k j):Sem Value).run P w=.ok z w:=by
  cases b<;>simp at hz<;>subst hz<;>simp [eqGuard,binOp,Op.intCmp,Op.intArith,Sem.run_bind]
theorem CT (T:TypeId) (x y:Operand) {i j r:Int} (e:i+j=r) (h1:-9223372036854775808≤r) (h2:r≤9223372036854775807) (w:World):(do eqGuard .add T x y (ν i) (ν j);binOp .add T (ν i) (ν j):Sem Value).run P w=.ok (ν r) w:=
  bI .add T x y .i64 i j (by subst e;show some (Value.int .i64 (IntKind.i64.wrap (i+j)))=_;rw [IntWalk.i64_in _ ⟨h1,h2⟩]) w
theorem Acx (T:TypeId) (x y:Operand) {i j r:Int} (e:i-j=r) (h1:-9223372036854775808≤r) (h2:r≤9223372036854775807) (w:World):(do eqGuard .sub T x y (ν i) (ν j);binOp .sub T (ν i) (ν j):Sem Value).run P w=.ok (ν r) w:=
  bI .sub T x y .i64 i j (by subst e;show some (Value.int .i64 (IntKind.i64.wrap (i-j)))=_;rw [IntWalk.i64_in _ ⟨h1,h2⟩]) w
theorem Agj (T:TypeId) (x y:Operand) {i j r:Int} (e:i*j=r) (h1:-9223372036854775808≤r) (h2:r≤9223372036854775807) (w:World):(do eqGuard .mul T x y (ν i) (ν j);binOp .mul T (ν i) (ν j):Sem Value).run P w=.ok (ν r) w:=
  bI .mul T x y .i64 i j (by subst e;show some (Value.int .i64 (IntKind.i64.wrap (i*j)))=_;rw [IntWalk.i64_in _ ⟨h1,h2⟩]) w
theorem Aet (T:TypeId) (x y:Operand) {i j r:Int} (hj:j≠0) (e:i.tmod j=r) (w:World):(do eqGuard .rem T x y (ν i) (ν j);binOp .rem T (ν i) (ν j):Sem Value).run P w=.ok (ν r) w:=by
  subst e;simp [eqGuard,binOp,Op.intDiv,hj,Sem.run_bind]
theorem Acw (T:TypeId) (x y:Operand) {i j r:Int} (hj:j≠0) (e:i.tdiv j=r) (h1:-9223372036854775808≤r) (h2:r≤9223372036854775807) (w:World):(do eqGuard .quo T x y (ν i) (ν j);binOp .quo T (ν i) (ν j):Sem Value).run P w=.ok (ν r) w:=by
  subst e;simp [eqGuard,binOp,Op.intDiv,hj,Sem.run_bind,IntWalk.i64_in _ ⟨h1,h2⟩]
theorem cLt (T:TypeId) (x y:Operand) (k:IntKind) {i j:Int} {t:Bool} (ht:decide (i<j)=t) (w:World):(do eqGuard .lss T x y (.int k i) (.int k j);binOp .lss T (.int k i) (.int k j):Sem Value).run P w=.ok (.bool t) w:=
  bI .lss T x y k i j (by subst ht;rfl) w
theorem cGt (T:TypeId) (x y:Operand) (k:IntKind) {i j:Int} {t:Bool} (ht:decide (i>j)=t) (w:World):(do eqGuard .gtr T x y (.int k i) (.int k j);binOp .gtr T (.int k i) (.int k j):Sem Value).run P w=.ok (.bool t) w:=
  bI .gtr T x y k i j (by subst ht;rfl) w
theorem cLe (T:TypeId) (x y:Operand) (k:IntKind) {i j:Int} {t:Bool} (ht:decide (i≤j)=t) (w:World):(do eqGuard .leq T x y (.int k i) (.int k j);binOp .leq T (.int k i) (.int k j):Sem Value).run P w=.ok (.bool t) w:=
  bI .leq T x y k i j (by subst ht;rfl) w
theorem cGe (T:TypeId) (x y:Operand) (k:IntKind) {i j:Int} {t:Bool} (ht:decide (i≥j)=t) (w:World):(do eqGuard .geq T x y (.int k i) (.int k j);binOp .geq T (.int k i) (.int k j):Sem Value).run P w=.ok (.bool t) w:=
  bI .geq T x y k i j (by subst ht;rfl) w
theorem cEq (T:TypeId) (x y:Operand) (k:IntKind) {i j:Int} {t:Bool} (ht:decide (i=j)=t) (w:World):(do eqGuard .eql T x y (.int k i) (.int k j);binOp .eql T (.int k i) (.int k j):Sem Value).run P w=.ok (.bool t) w:=
  bI .eql T x y k i j (by subst ht;show some (Value.bool (i == j))=_;rw [show (i == j)=decide (i=j) from rfl]) w
theorem cNe (T:TypeId) (x y:Operand) (k:IntKind) {i j:Int} {t:Bool} (ht:decide (i≠j)=t) (w:World):(do eqGuard .neq T x y (.int k i) (.int k j);binOp .neq T (.int k i) (.int k j):Sem Value).run P w=.ok (.bool t) w:=
  bI .neq T x y k i j (by subst ht;show some (Value.bool (i != j))=_;rw [show (i != j)=decide (i≠j) by simp [bne];rfl]) w
theorem PF (d:Nat) {T E:TypeId} (hu:P.underlying T=some (.pointer E)) (p:Ω) (w:World):(Op.equalIn (d+1) T (.pointer p) (.pointer none)).run P w=.ok p.isNone w:=by
  cases p<;>simp [Op.equalIn,underlying,hu,Sem.run_bind]
theorem UY (d:Nat) {T:TypeId} (hu:P.underlying T=some .bool) (p q:Bool) (w:World):(Op.equalIn (d+1) T (.bool p) (.bool q)).run P w=.ok (p == q) w:=by
  simp [Op.equalIn,underlying,hu,Sem.run_bind]
theorem IO (T:TypeId) {E:TypeId} (hu:P.underlying T=some (.pointer E)) (x y:Operand) (p:Ω) (w:World) :
    (do eqGuard .eql T x y (.pointer p) (.pointer none);binOp .eql T (.pointer p) (.pointer none):Sem Value).run P w=.ok (.bool p.isNone) w:=by
  have e:(Op.equal T (.pointer p) (.pointer none)).run P w=.ok p.isNone w:=PF 9999 hu p w
  cases p<;>simp [eqGuard,binOp,Sem.run_bind,e]<;>rfl
theorem Ab5 (T:TypeId) {E:TypeId} (hu:P.underlying T=some (.pointer E)) (x y:Operand) (p:Ω) (w:World) :
    (do eqGuard .neq T x y (.pointer p) (.pointer none);binOp .neq T (.pointer p) (.pointer none):Sem Value).run P w=.ok (.bool !p.isNone) w:=by
  have e:(Op.equal T (.pointer p) (.pointer none)).run P w=.ok p.isNone w:=PF 9999 hu p w
  cases p<;>simp [eqGuard,binOp,Sem.run_bind,e]<;>rfl
theorem Acv (b:BinOp) {T:TypeId} (hu:P.underlying T=some .bool) (x y:Operand) (p q:Bool) (w:World) :
    (do eqGuard .neq T x y (.bool p) (.bool q);binOp .neq T (.bool p) (.bool q):Sem Value).run P w=.ok (.bool !(p == q)) w:=by
  have e:(Op.equal T (.bool p) (.bool q)).run P w=.ok (p == q) w:=UY 9999 hu p q w
  simp [eqGuard,binOp,Sem.run_bind,e]
theorem PW {T:TypeId} {k:TypeDesc} (hu:P.underlying T=some k) (hk:k.isRow=false) (w:World):(isAgg T).run P w=.ok false w:=by
  unfold isAgg
  simp [underlying,hu,Sem.run_bind]
  cases k<;>simp_all
theorem ldB {T:TypeId} {k:TypeDesc} (hu:P.underlying T=some k) (hk:k.isRow=false) {g e off:Nat} {L:List Value} {v:Value} (h:Blk w g e L) (hv:L[off]? = some v):(Instr.loadAt T (.pointer (some ⟨g,off,none⟩))).run P w=.ok v w:=by
  obtain ⟨h1,h2⟩:=List.getElem?_eq_some_iff.1 hv
  have hc:=h.cell h1
  rw [h2] at hc
  simp [Instr.loadAt,Instr.sureAddr,loadVar,Sem.run_bind,PW hu hk,hc]
theorem ldC {T:TypeId} {k:TypeDesc} (hu:P.underlying T=some k) (hk:k.isRow=false) {g off:Nat} {v:Value} (hc:w.cell? ⟨g,off,none⟩=some v):(Instr.loadAt T (.pointer (some ⟨g,off,none⟩))).run P w=.ok v w:=by
  simp [Instr.loadAt,Instr.sureAddr,loadVar,Sem.run_bind,PW hu hk,hc]
theorem ldA {T:TypeId} {k:TypeDesc} (hu:P.underlying T=some k) (hk:k.isRow=true) {g e off n:Nat} {L cs:List Value} (hn:(P.info? T).map (·.size)=some n) (h:Blk w g e L) (hv:(L.drop off).take n=cs) (hl:cs.length=n):(Instr.loadAt T (.pointer (some ⟨g,off,none⟩))).run P w=.ok (.agg cs.toArray) w:=by
  refine run_loadAt_mid w g off T cs k (fun j v hj=>?_) hu hk (by rw [hl];exact hn)
  rw [← hv,List.getElem?_take] at hj
  split at hj
  · rw [List.getElem?_drop] at hj
    obtain ⟨h1,h2⟩:=List.getElem?_eq_some_iff.1 hj
    rw [h.cell h1,h2]
  · cases hj
theorem ixS {T E:TypeId} (hu:P.underlying T=some (.slice E)) {sz:Nat} (hsz:(P.info? E).map (·.size)=some sz) {b n c j:Nat} {k:IntKind} {i:Int} (hi:i=(j:Int)) (hj:j<n) {o:Nat} (ho:j*sz=o) (w:World):(Instr.indexAt T (.slice (some ⟨b,0,none⟩) n c) (.int k i)).run P w=.ok (.pointer (some ⟨b,o,none⟩)) w:=by
  subst hi;subst ho
  have d0:(j:Int)<(n:Int):=ω
  have d1:0≤(j:Int):=ω
  cases hq:P.info? E with
  | none=>simp [hq] at hsz
  | some q=>
    have hs:q.size=sz:=by simpa [hq] using hsz
    simp [Instr.indexAt,asIntOf,underlying,hu,Sem.run_bind,sizeOf,typeInfo,hq,hs,hj]
    unfold Addr.add
    split
    · simp_all
    · simp
end
end
section
theorem WD {P:Program} {w:World} {B:Nat} {t ty e:TypeId} {i:TypeInfo} {z:Value} {size bytes:Nat} (ht:P.underlying t=some (.slice e)) (hi:P.info? e=some i) (hz:i.zero=some z) (hsize:i.size=size) (hby:i.bytes=bytes) (hsz:0<size)
    {a1:Ω} {n c0:Nat} {xs:List Value} (hown:Own w B e size a1 n c0 xs) {a:Addr} {m c:Nat} {news:List Value} (hl:news.length=m*size) (hnews:∀ j u,news[j]? = some u→w.cell? (a.add j)=some u) (h1:∀ u∈news,u.oneCell'=true)
    (h63:n+m≤maxLen) (hbytes:(n+m)*bytes≤140737488355328) (hm:0<m) {b:Ω} {n' c':Nat} {w':World} (hr:(Builtin.append_ #[t,t] ty #[.slice a1 n c0,.slice (some a) m c]).run P w=.ok (.slice b n' c') w') :
    ∀ k,(Value.slice b n' c').ownBlock=some k→(Value.slice a1 n c0).ownBlock=some k∨w.heap.size≤k:=by
  subst hsize
  subst hby
  have hsmall:n+m≤9223372036854775807:=by simp only [maxLen] at h63;omega
  rcases hown.2 with ⟨hv,hn⟩ | ⟨g,cap,cur,hv,hbg,hg,hnc,hcm,hcs,htake⟩
  · cases hv
    have q:=run_append_nil (P:=P) w t ty e i z ht hi hz a m c news hl hnews ω ω (by have hb:=hbytes;simp only [Nat.zero_add] at hb;omega)
    rw [q] at hr
    cases hr
    intro k hk;cases hk;exact .inr (Nat.le_refl _)
  · cases hv
    by_cases hroom:n+m≤c0
    · have hfit:n*i.size+news.length≤cur.size:=by rw [hl,hcs,← Nat.add_mul];exact Nat.mul_le_mul_right _ hroom
      have q:=run_append_room (P:=P) w t ty e i ht hi g n c0 cur hg a m c news hl hnews h1 hroom hfit
      rw [q] at hr
      cases hr
      intro k hk;exact .inl hk
    · have holds:∀ j u,xs[j]? = some u→w.cell? ((⟨g,0,none⟩:Addr).add j)=some u:=World.ownsRow.cells hown (g:=g) rfl
      have q:=run_append_grow (P:=P) w t ty e i z ht hi hz ⟨g,0,none⟩ n c0 xs hown.1 holds a m c news hl hnews ω ω (growslice_fits ω hbytes)
      rw [q] at hr
      cases hr
      intro k hk;cases hk;exact .inr (Nat.le_refl _)
theorem Turns.of_row {w w':World} {r:Option Nat} (h:w.grownBy w' r):Turns (fun k=>r=some k) w w':=⟨h.os,h.tape,h.output,h.size,fun k hk hn=>h.block k hk (fun e=>hn e.symm)⟩
section
variable {P:Program} {Q:Exit→Act→World→Prop} {o:Oper} {a:Act} {w w':World} {N:Nat} {l:List (Nat×Value)} {K:Act→World→Prop} {cs:List Ch}
theorem Ne (h:Kn N l a) {d:Nat} (hd:o.dst=some d) (hdN:decide (d<N)=true) (hf:l.all (fun x=>!(x.1 == d))=true) {v:Value} (hr:(execOp a.eval o).run P w=.ok (.value v) w')
    (k:∀ a',Kn N ((d,v)::l) a'→K a' w'):Oper.wp P o a w K Q:=Di h hd (of_decide_eq_true hdN) (fr hf) v hr k
theorem AO (h:Kn N l a) {d:Nat} (hd:o.dst=some d) (hdN:decide (d<N)=true) (hf:l.all (fun x=>!(x.1 == d))=true) {T:TypeId} (ho:o.op=.alloc T) {z:List Value}
    (hz:∀ w,(Instr.alloc T true (.tuple #[])).run P w=.ok (π w.heap.size) (w.alloc (.cells z.toArray T))) (hS:Sep w cs)
    (k:∀ a' g w',Kn N ((d,π g)::l) a'→Sep w' (Ab g T z::cs)→(∃ o,w'=w.alloc o)→g=w.heap.size→K a' w'):Oper.wp P o a w K Q:=by
  refine Ne h hd hdN hf (by unfold execOp;rw [ho];exact Af (hz w)) fun a' h'=>k a' _ _ h' (hS.push (Ck _ _) (AN rfl _ _) (fun k e=>by cases e;exact Nat.le_refl _)) ⟨_,rfl⟩ rfl
theorem JE (h:Kn N l a) {d:Nat} (hd:o.dst=some d) (hdN:decide (d<N)=true) (hf:l.all (fun x=>!(x.1 == d))=true) {T:TypeId} {x:Operand} (ho:o.op=.box T x) {v:Value} (hx:opv l x=some v) {z:List Value}
    (hz:v.cells=z.toArray) (hS:Sep w cs)
    (k:∀ a' g w',Kn N ((d,π g)::l) a'→Sep w' (Ab g T z::cs)→(∃ o,w'=w.alloc o)→g=w.heap.size→K a' w'):Oper.wp P o a w K Q:=by
  refine Ne (v:=π w.heap.size) (w':=w.alloc (.cells z.toArray T)) h hd hdN hf (by unfold execOp;rw [ho];simp only [h.op hx];rw [← hz];exact Af rfl) fun a' h'=>k a' _ _ h' (hS.push (Ck _ _) (AN rfl _ _) (fun k e=>by cases e;exact Nat.le_refl _)) ⟨_,rfl⟩ rfl
theorem Cw (h:Kn N l a) {d:Nat} (hd:o.dst=some d) (hdN:decide (d<N)=true) (hf:l.all (fun x=>!(x.1 == d))=true) {T E:TypeId} {n:Nat} {xs:List (Nat×Operand)} (ho:o.op=.buildSlice T n xs.toArray) {vs:List (Nat×Value)} (hx:xs.map (fun p=>(p.1,opv l p.2))=vs.map (fun p=>(p.1,some p.2))) {z:List Value}
    (hz:∀ w,(Instr.buildSlice T n vs.toArray).run P w=.ok (.slice (some ⟨w.heap.size,0,none⟩) n n) (w.alloc (.cells z.toArray E))) (hS:Sep w cs)
    (k:∀ a' g w',Kn N ((d,.slice (some ⟨g,0,none⟩) n n)::l) a'→Sep w' (Ab g E z::cs)→(∃ o,w'=w.alloc o)→g=w.heap.size→K a' w'):Oper.wp P o a w K Q:=by
  refine Ne h hd hdN hf (by unfold execOp;rw [ho];simp only [h.parts hx];exact Af (hz w)) fun a' h'=>k a' _ _ h' (hS.push (Ck _ _) (AN rfl _ _) (fun k e=>by cases e;exact Nat.le_refl _)) ⟨_,rfl⟩ rfl
theorem Pe {T:TypeId} {p u:Value} {vs:List Value} (hu:u.cells=vs.toArray) (w:World):(Instr.storeAt T p u).run P w=(Instr.storeAt T p (.agg vs.toArray)).run P w:=by
  have e:Value.cells u=Value.cells (.agg vs.toArray):=hu
  simp only [Instr.storeAt,storeVar]
  rw [e]
theorem FS (h:Kn N l a) (hd:o.dst=none) {T:TypeId} {x y:Operand} (ho:o.op=.store T x y) (hS:Sep w cs) (i:Nat) {g off:Nat} {e:TypeId} {L:List Value} (hi:cs[i]? = some (Ab g e L)) (hx:opv l x=some (.pointer (some ⟨g,off,none⟩))) {u:Value} (hy:opv l y=some u) (vs:List Value) (hu:u.cells=vs.toArray)
    (hn:(P.info? T).map (·.size)=some vs.length) (h1:vs.all (·.oneCell')=true) (hL:off+vs.length≤L.length) {L':List Value} (hL':splice L off vs=L') {cs':List Ch} (hcs:cs.set i (Ab g e L')=cs')
    (k:∀ a' w',Kn N l a'→Sep w' cs'→Turns (fun k=>k=g) w w'→K a' w'):Oper.wp P o a w K Q:=by
  have hb:Blk w g e L:=hS.get i hi
  obtain ⟨h2,h3⟩:=Blk.setCells vs off w L hb hL
  have hr:=run_storeAt_mid (P:=P) w g off T vs.toArray (by simpa using hb.there off vs.length hL) (by simpa using hn) (by rw [List.all_toArray];exact h1)
  refine Lc (w':=w.setCells g off vs) h hd ?_ fun a' h'=>k a' _ h' ?_ (Turns.of_grown h3 rfl)
  · unfold execOp;rw [ho];simp only [h.op hx,h.op hy]
    rw [Sem.run_bind,Pe hu,hr]
    rfl
  · rw [hL'] at h2
    rw [← hcs]
    exact hS.upd i hi (Turns.of_grown h3 rfl) (fun k _ e=>e.symm ▸ rfl) h2 (fun k e=>.inl e)
theorem BD (h:Kn N l a) {d:Nat} (hd:o.dst=some d) (hdN:decide (d<N)=true) (hf:l.all (fun x=>!(x.1 == d))=true) {f:Operand} {xs:List Operand} {ts:Array TypeId} (ho:o.op=.call { callee:=.value f,args:=xs.toArray,argTypes:=ts })
    {fn:FuncId} (hcf:∀ args w,(callFunc fn args).run P w=.ok (.enter fn args) w) {first cap:Array Value} (hfv:opv l f=some (.func (.func fn) first cap)) {vs:List Value} (hx:xs.map (opv l)=vs.map some) {args:Array Value} (ha:first++vs.toArray++cap=args)
    {R:Value→World→Prop} (HC:CallsR P fn args w R) (k:∀ a' v w',R v w'→Kn N ((d,v)::l) a'→K a' w'):Oper.wp P o a w K Q:=by
  have hrun:(execOp a.eval o).run P w=.ok (.enter fn args) w:=by
    unfold execOp;rw [ho]
    simp only [resolve,h.ops hx,h.op hfv,Deferred.ofValue,invoke,Sem.run_bind,Sem.run_pure,Result.andThen_ok,ha,hcf]
  unfold Oper.wp
  rw [hrun,Oper.upon_enter]
  refine Calls.mono HC ?_
  rintro e w' ⟨v,rfl,hv⟩
  simp only
  rw [hd]
  exact k _ v w' hv (h.put (of_decide_eq_true hdN) (fr hf) v)
theorem Sep.ownNil {w:World} {cs:List Ch} (h:Sep w cs) (B:Nat) (e:TypeId) (sz:Nat):Sep w (AG B e sz none 0 0 []::cs):=
  h.push (Below.refl _ _) (Own.nil _ _ _ _) (fun k e=>by cases e)
theorem Ab3 (h:Kn N l a) {d:Nat} (hd:o.dst=some d) (hdN:decide (d<N)=true) (hf:l.all (fun x=>!(x.1 == d))=true) {s x:Operand} {t e:TypeId} {sz bytes:Nat}
    (ho:o.op=.call { callee:=.builtin .append,args:=#[s,x],argTypes:=#[t,t] }) (E:ElemT P t e sz bytes) (hS:Sep w cs) (i:Nat) {B:Nat}
    {a1:Ω} {ad:Addr} {n c m c2:Nat} {xs ds:List Value} (hi:cs[i]? = some (AG B e sz a1 n c xs)) (hs:opv l s=some (.slice a1 n c)) (hx:opv l x=some (.slice (some ad) m c2))
    (hrow:Row w sz (some ad) m c2 ds) (hm:0<m) (h1:ds.all (·.oneCell')=true) (hbytes:(n+m)*bytes≤140737488355328) (h63:n+m≤9223372036854775807) {n':Nat} (hn':n+m=n')
    (k:∀ a' b' c' w',Kn N ((d,.slice b' n' c')::l) a'→Sep w' (cs.set i (AG 0 e sz b' n' c' (xs++ds)))→w.heap.size≤w'.heap.size→K a' w'):Oper.wp P o a w K Q:=by
  subst hn'
  have hown:Own w 0 e sz a1 n c xs:=Own.low (hS.get i hi:Own w B e sz a1 n c xs) (Nat.zero_le _)
  obtain ⟨under,⟨ti,z,hi',hz,hsize,hby,hzs⟩,hsz⟩:=E
  obtain ⟨g1,g2,g3,g4,g5⟩:=hrow
  have hnews:∀ j u,ds[j]? = some u→w.cell? (ad.add j)=some u:=by
    intro j u hu
    obtain ⟨b,off,e1,_,hc⟩:=g5 hm
    cases e1
    have:=hc j u hu
    unfold Addr.add
    split
    · subst j;simpa using this
    · exact this
  have h1':∀ u∈ds,u.oneCell'=true:=List.all_eq_true.1 h1
  obtain ⟨v',w',hr,h2,h3,h4⟩:=run_append_own (P:=P) w 0 t o.type e ti z sz bytes under hi' hz hsize hby hzs hsz (.slice a1 n c) n xs hown ad m c2 ds g1 hnews h1' (by unfold maxLen;omega) hbytes (Nat.zero_le _)
  obtain ⟨b',c',rfl,h5⟩:=CX h2
  have hw:=WD (P:=P) under hi' hz hsize hby hsz hown g1 hnews h1' (by unfold maxLen;omega) hbytes hm hr
  refine Ne (v:=.slice b' (n+m) c') (w':=w') h hd hdN hf ?_ fun a' h'=>k a' b' c' w' h' (hS.upd i hi (Turns.of_row h3) (fun k _ e=>e) (c':=AG 0 e sz b' (n+m) c' (xs++ds)) h5 hw) h3.size
  unfold execOp
  simp only [ho,resolve,invoke,builtin,Sem.run_bind,Sem.run_pure,Result.andThen_ok,List.map_toArray,List.map_cons,List.map_nil,h.op hs,h.op hx,hr]
end
theorem Km {P:Program} {Q:Exit→Act→World→Prop} {a:Act} {w:World} {c:Code} {α:Type} (I:α→Act→World→Prop) (μ:α→Nat) (x₀:α) (h₀:I x₀ a w)
    (round:∀ x a w,I x a w→∀ K:Act→World→Prop,(∀ y a' w',I y a' w'→μ y<μ x→K a' w')→c.wp P (Exit.then K Q) a w):(Code.loop c).wp P Q a w:=by
  intro b k cs
  have key:∀ n x a w,μ x=n→I x a w→∃ e a' w',Q e a' w'∧Arrives P (lone (b.at a (.code c::.inLoop c::k)) cs w) b k cs e a' w':=by
    intro n
    induction n using Nat.strongRecOn with
    | _ n ih=>
      intro x a w hn hI
      obtain ⟨e,a₁,w₁,hq,harr⟩:=round x a w hI (fun a' w'=>∃ y,I y a' w'∧μ y<μ x) (fun y a' w' h1 h2=>⟨y,h1,h2⟩) b (.inLoop c::k) cs
      cases e with
      | normal=>
        obtain ⟨y,hI₁,hlt⟩:=hq
        obtain ⟨e₂,a₂,w₂,hq₂,harr₂⟩:=ih (μ y) (hn ▸ hlt) y a₁ w₁ rfl hI₁
        exact ⟨e₂,a₂,w₂,hq₂,.of_steps (Steps.trans harr (.one step_inLoop)) harr₂⟩
      | exit id=>exact ⟨_,a₁,w₁,hq,.pass (x:=.inLoop c) rfl (fun _ _=>.inl (by simp)) harr⟩
      | goto l=>exact ⟨_,a₁,w₁,hq,.pass (x:=.inLoop c) rfl (fun _ _=>.inl (by simp)) harr⟩
      | ret=>exact ⟨_,a₁,w₁,hq,.pass (x:=.inLoop c) rfl (fun _ _=>.inl (by simp)) harr⟩
      | panic ch=>exact ⟨_,a₁,w₁,hq,.pass (x:=.inLoop c) rfl (fun _ _=>.inl (by simp)) harr⟩
      | outgrown=>exact ⟨_,a₁,w₁,hq,.pass (x:=.inLoop c) rfl (fun _ _=>.inl (by simp)) harr⟩
  obtain ⟨e,a',w',hq,harr⟩:=key _ x₀ a w rfl h₀
  exact ⟨e,a',w',hq,.of_steps (.one step_loop) harr⟩
section
variable {P:Program} {Q:Exit→Act→World→Prop} {a:Act} {w:World} {c:Code} {α β γ δ ε ζ:Type}
theorem DZ (I:α→Act→World→Prop) (μ:α→Nat) (x:α) (h₀:I x a w)
    (round:∀ x a w,I x a w→∀ K:Act→World→Prop,(∀ y a' w',I y a' w'→μ y<μ x→K a' w')→c.wp P (Exit.then K Q) a w):(Code.loop c).wp P Q a w:=Km I μ x h₀ round
theorem Rm (I:α→β→Act→World→Prop) (μ:α→β→Nat) (x:α) (y:β) (h₀:I x y a w)
    (round:∀ x y a w,I x y a w→∀ K:Act→World→Prop,(∀ x' y' a' w',I x' y' a' w'→μ x' y'<μ x y→K a' w')→c.wp P (Exit.then K Q) a w):(Code.loop c).wp P Q a w:=
  Km (α:=α×β) (fun p=>I p.1 p.2) (fun p=>μ p.1 p.2) (x,y) h₀ (fun p a w hI K hK=>round p.1 p.2 a w hI K (fun x' y'=>hK (x',y')))
theorem JB (I:α→β→γ→δ→Act→World→Prop) (μ:α→β→γ→δ→Nat) (x:α) (y:β) (z:γ) (u:δ) (h₀:I x y z u a w)
    (round:∀ x y z u a w,I x y z u a w→∀ K:Act→World→Prop,(∀ x' y' z' u' a' w',I x' y' z' u' a' w'→μ x' y' z' u'<μ x y z u→K a' w')→c.wp P (Exit.then K Q) a w):(Code.loop c).wp P Q a w:=
  Km (α:=α×β×γ×δ) (fun p=>I p.1 p.2.1 p.2.2.1 p.2.2.2) (fun p=>μ p.1 p.2.1 p.2.2.1 p.2.2.2) (x,y,z,u) h₀ (fun p a w hI K hK=>round p.1 p.2.1 p.2.2.1 p.2.2.2 a w hI K (fun x' y' z' u'=>hK (x',y',z',u')))
theorem JA {N:Nat} {l:List (Nat×Value)} {cd:Operand} {x y:Code} (h:Kn N l a) {t b:Bool} (hx:opv l cd=some (.bool t)) (ht:t=b) (k:(if b=true then x else y).wp P Q a w):(Code.cond cd x y).wp P Q a w:=wp_cond (h.op hx) (by rw [ht];exact k)
theorem Ag5 {fn:Func} (h:fn.results=#[]) {tmps:Array Value} (w:World):(results fn tmps).run P w=.ok (.tuple #[]) w:=results_none h tmps P w
theorem Cz {fn:Func} {N:Nat} {l:List (Nat×Value)} (hK:Kn N l a) {c:Nat} (h:fn.results=#[.tmp c]) {v:Value} (hv:opv l (.tmp c)=some v) (w:World):(results fn a.tmps).run P w=.ok v w:=by
  have:=hK.op hv
  simp only [Act.eval] at this
  rw [results_tmp h,this]
theorem DK {fn:Func} {N:Nat} {l:List (Nat×Value)} (hK:Kn N l a) {c d:Nat} (h:fn.results=#[.tmp c,.tmp d]) {v u:Value} (hv:opv l (.tmp c)=some v) (hu:opv l (.tmp d)=some u) (w:World):(results fn a.tmps).run P w=.ok (.tuple #[v,u]) w:=by
  have e1:=hK.op hv
  have e2:=hK.op hu
  simp only [Act.eval,Array.getD_eq_getD_getElem?] at e1 e2
  simp [results,h,e1,e2]
theorem Abl {fn:Func} {N:Nat} {l:List (Nat×Value)} (hK:Kn N l a) {c d e:Nat} (h:fn.results=#[.tmp c,.tmp d,.tmp e]) {v u z:Value} (hv:opv l (.tmp c)=some v) (hu:opv l (.tmp d)=some u) (hz:opv l (.tmp e)=some z) (w:World):(results fn a.tmps).run P w=.ok (.tuple #[v,u,z]) w:=by
  have e1:=hK.op hv
  have e2:=hK.op hu
  have e3:=hK.op hz
  simp only [Act.eval,Array.getD_eq_getD_getElem?] at e1 e2 e3
  simp [results,h,e1,e2,e3]
theorem AW {fn:Func} {R:Value→World→Prop} {v:Value} (hr:∀ w,(results fn a.tmps).run P w=.ok v w) (hd:a.defers=[]) (k:R v w):bodyPost P fn (fun e w'=>∃ v,e=.returned v∧R v w') .ret a w:=bodyPost_ret (hr w) hd ⟨v,rfl,k⟩
theorem Agq {fn:Func} {R:Value→World→Prop} {v:Value} (hr:∀ w,(results fn a.tmps).run P w=.ok v w) (hd:a.defers=[]) (k:R v w):bodyPost P fn (fun e w'=>∃ v,e=.returned v∧R v w') .normal a w:=bodyPost_end (hr w) hd ⟨v,rfl,k⟩
theorem AB {f:FuncId} {fn:Func} {c:Code} {args:Array Value} {R:Value→World→Prop} (hf:P.funcs[f]? = some fn) (hb:fn.body=some c) {N:Nat} (hn:fn.ntmps=N) (hs:args.size≤N) (l:List (Nat×Value)) (hl:l.map (fun x=>args[x.1]?)=l.map (fun x=>some x.2))
    (k:∀ a,Kn N l a→c.wp P (bodyPost P fn (fun e w'=>∃ v,e=.returned v∧R v w')) a w):CallsR P f args w R:=by
  refine calls_of_wp hf hb (k _ ⟨by simp [hn];omega,fun x hx=>?_,rfl⟩)
  have e:args[x.1]? = some x.2:=by
    obtain ⟨i,hi,e⟩:=List.getElem_of_mem hx
    have q:(l.map (fun x=>args[x.1]?))[i]? = (l.map (fun x=>some x.2))[i]?:=by rw [hl]
    rw [List.getElem?_map,List.getElem?_map,List.getElem?_eq_getElem hi,e] at q
    simpa using q
  have hlt:x.1<args.size:=(Array.getElem?_eq_some_iff.1 e).1
  show (args++Array.replicate (fn.ntmps-args.size) undef)[x.1]? = some x.2
  rw [Array.getElem?_append_left hlt];exact e
end
end
section
theorem Ag8 {N:Nat} {l:List (Nat×Value)} {a:Act} {o:Oper} (h:Kn N l a) {x:Operand} (ho:o.op=.unOp .neg 3 x) {n r:Int} (hx:opv l x=some (ν n)) (e:-n=r) (h1:-9223372036854775808≤r) (h2:r≤9223372036854775807) (w:World):(execOp a.eval o).run prog w=.ok (.value (ν r)) w:=by
  subst e
  unfold execOp
  rw [ho]
  simp only [h.op hx]
  have u3:=υ3
  have a3:=Tryz.isAgg3
  have z3:=Tryz.sizeOf3
  have e1:IntKind.i64.wrap (-n)=-n:=IntWalk.i64_in _ ω
  go_simp
theorem Adg {L:List Int} {j:Nat} (h:j<L.length):(L.map iV)[j]? = some (ν (L.getD j 0)):=by
  rw [List.getElem?_map,List.getElem?_eq_getElem h];simp [iV,h]
theorem Adk {α:Type} {enc:α→List Value} {sz:Nat} (h:∀ x,(enc x).length=sz) {L:List α} {j k o:Nat} (z:α) (hj:j<L.length) (hk:k<sz) (ho:j*sz+k=o):(L.flatMap enc)[o]? = (enc (L.getD j z))[k]?:=by
  subst ho
  rw [Jc enc sz h L j k hj hk]
  simp [hj]
theorem Adl {α:Type} {enc:α→List Value} {sz:Nat} (h:∀ x,(enc x).length=sz) (L:List α):(L.flatMap enc).length=L.length*sz:=LE enc sz h L
section
variable {P:Program}
theorem ixO {T E:TypeId} (hu:P.underlying T=some (.slice E)) {sz:Nat} (hsz:(P.info? E).map (·.size)=some sz) {a:Ω} {b off n c j:Nat} (ha:a=some ⟨b,off,none⟩) {k:IntKind} {i:Int} (hi:i=(j:Int)) (hj:j<n) {o:Nat} (ho:off+j*sz=o) (w:World):(Instr.indexAt T (.slice a n c) (.int k i)).run P w=.ok (.pointer (some ⟨b,o,none⟩)) w:=by
  subst hi;subst ho;subst ha
  have d0:(j:Int)<(n:Int):=ω
  have d1:0≤(j:Int):=ω
  cases hq:P.info? E with
  | none=>simp [hq] at hsz
  | some q=>
    have hs:q.size=sz:=by simpa [hq] using hsz
    simp [Instr.indexAt,asIntOf,underlying,hu,Sem.run_bind,sizeOf,typeInfo,hq,hs,hj]
    unfold Addr.add
    split
    · simp_all
    · simp
end
section
variable {P:Program} {Q:Exit→Act→World→Prop} {o:Oper} {a:Act} {w w':World} {N:Nat} {l:List (Nat×Value)} {K:Act→World→Prop} {cs:List Ch}
theorem UA {α:Type} {enc:α→List Value} {sz:Nat} (henc:∀ x,(enc x).length=sz) (h:Kn N l a) {d:Nat} (hd:o.dst=some d) (hdN:decide (d<N)=true) (hf:l.all (fun x=>!(x.1 == d))=true) {s x:Operand} {t e:TypeId} {by_:Nat}
    (ho:o.op=.call { callee:=.builtin .append,args:=#[s,x],argTypes:=#[t,t] }) (E:ElemT P t e sz by_) (hS:Sep w cs) (i:Nat) {B:Nat}
    {a1:Ω} {c:Nat} {L:List α} (hi:cs[i]? = some (AG B e sz a1 L.length c (L.flatMap enc))) (hs:opv l s=some (.slice a1 L.length c)) (j:Nat) {g:Nat} {e':TypeId} {y:α} (hj:cs[j]? = some (Ab g e' (enc y))) (hx:opv l x=some (.slice (some ⟨g,0,none⟩) 1 1))
    (h1:(enc y).all (·.oneCell')=true) (hb:by_≤1000) (hn:L.length<1000000000) {L':List α} (hL:L++[y]=L')
    (k:∀ a' b' c' w',Kn N ((d,.slice b' L'.length c')::l) a'→Sep w' (cs.set i (AG 0 e sz b' L'.length c' (L'.flatMap enc)))→K a' w'):Oper.wp P o a w K Q:=by
  refine Ab3 h hd hdN hf ho E hS i hi hs hx (ds:=enc y) (YI (hS.get j hj:Blk _ _ _ _) sz 1 (by rw [henc,Nat.one_mul]) (by decide)) (by decide) h1 (Nat.le_trans (Nat.mul_le_mul_left _ hb) ω) ω (n':=L'.length) (by rw [← hL];simp) fun a' b' c' w' h' s' _=>k a' b' c' w' h' ?_
  rw [show L.flatMap enc++enc y=L'.flatMap enc by rw [← hL];simp] at s'
  exact s'
end
theorem Vr {α:Type} {enc:α→List Value} {sz:Nat} (h:∀ x,(enc x).length=sz) {z:Array Value} {x:α} (hz:z.toList=enc x) (hsz:0<sz) (n:Nat):(madeCells z (n*sz)).toList=(List.replicate n x).flatMap enc:=by
  have hzs:z.size=sz:=by rw [← Array.length_toList,hz,h]
  refine List.ext_getElem? fun i=>?_
  by_cases hi:i<n*sz
  · have hd:i / sz<n:=Nat.div_lt_of_lt_mul (by rw [Nat.mul_comm];exact hi)
    have hm:i % sz<sz:=Nat.mod_lt _ hsz
    rw [Adk h (j:=i / sz) (k:=i % sz) x (by simpa using hd) hm (by rw [Nat.mul_comm];exact Nat.div_add_mod i sz)]
    have e:(List.replicate n x).getD (i / sz) x=x:=by simp [List.getD_eq_getElem?_getD,List.getElem?_replicate,hd]
    rw [e,← hz]
    simp [madeCells,hi,hzs,hm]
  · rw [List.getElem?_eq_none (by simp [madeCells];omega),List.getElem?_eq_none (by rw [Adl h];simp;omega)]
section
variable {P:Program} {Q:Exit→Act→World→Prop} {o:Oper} {a:Act} {w w':World} {N:Nat} {l:List (Nat×Value)} {K:Act→World→Prop} {cs:List Ch}
theorem IN {α:Type} {enc:α→List Value} {sz:Nat} (henc:∀ x,(enc x).length=sz) (hsz:0<sz) (h:Kn N l a) {d:Nat} (hd:o.dst=some d) (hdN:decide (d<N)=true) (hf:l.all (fun x=>!(x.1 == d))=true) {T E:TypeId} {x y:Operand} (ho:o.op=.makeSlice T x y) (hu:P.underlying T=some (.slice E))
    {z:Value} {n:Nat} (hi:(P.info? E).map (fun i=>(i.zero,i.size,decide (i.bytes*n≤281474976710656)))=some (some z,sz,true)) {m:α} (hz:z.cells.toList=enc m) (hx:opv l x=some (ν (n:Int))) (hy:opv l y=some (ν (n:Int))) (hn:n≤1000000000) (hS:Sep w cs)
    (k:∀ a' g w',Kn N ((d,.slice (some ⟨g,0,none⟩) n n)::l) a'→Sep w' (Ab g E ((List.replicate n m).flatMap enc)::cs)→(∃ o,w'=w.alloc o)→g=w.heap.size→K a' w'):Oper.wp P o a w K Q:=by
  obtain ⟨i,h0,h1,h2,h3⟩:∃ i,P.info? E=some i∧i.zero=some z∧i.size=sz∧decide (i.bytes*n≤281474976710656)=true:=by
    cases hq:P.info? E with
    | none=>rw [hq] at hi;cases hi
    | some i=>rw [hq] at hi;simp only [Option.map_some,Option.some.injEq,Prod.mk.injEq] at hi;exact ⟨i,rfl,hi.1,hi.2.1,hi.2.2⟩
  have hb':(i.bytes:Int)*(n:Int)≤281474976710656:=by
    have q:((i.bytes*n:Nat):Int)≤281474976710656:=by have:=of_decide_eq_true h3;omega
    rwa [Int.natCast_mul] at q
  have hr:=run_make (P:=P) w T E i z hu h0 h1 .i64 .i64 (n:Int) (n:Int) ω (Int.le_refl _) hb' ω
  simp only [Int.toNat_natCast,h2] at hr
  refine Ne h hd hdN hf (by unfold execOp;rw [ho];simp only [h.op hx,h.op hy];exact Af hr) fun a' h'=>k a' _ _ h' (hS.push (Ck _ _) ?_ (fun k e=>by cases e;exact Nat.le_refl _)) ⟨_,rfl⟩ rfl
  show Blk _ _ _ _
  rw [← Vr henc hz hsz n]
  simpa [Blk] using heap_alloc_new w (.cells (madeCells z.cells (n*sz)) E)
theorem Ag6 {fn:Func} (hK:Kn N l a) {c:Nat} {T:TypeId} (h:fn.results=#[.cell c T]) {g:Nat} {e:TypeId} {L:List Value} {k:TypeDesc} (hc:opv l (.tmp c)=some (π g)) (hb:Blk w g e L) (hu:P.underlying T=some k) (hk:k.isRow=true) (hn:(P.info? T).map (·.size)=some L.length):(results fn a.tmps).run P w=.ok (.agg L.toArray) w:=
  Dm h (hK.op hc) hb hu hk hn
theorem Acf {fn:Func} (hK:Kn N l a) {c u:Nat} {T:TypeId} (h:fn.results=#[.cell c T,.tmp u]) {g:Nat} {e:TypeId} {L:List Value} {k:TypeDesc} (hc:opv l (.tmp c)=some (π g)) {v:Value} (hv:opv l (.tmp u)=some v) (hb:Blk w g e L) (hu:P.underlying T=some k) (hk:k.isRow=true) (hn:(P.info? T).map (·.size)=some L.length):(results fn a.tmps).run P w=.ok (.tuple #[.agg L.toArray,v]) w:=by
  have e:=hK.op hv
  have q:=BX (P:=P) (w:=w) h (hK.op hc) hb hu hk hn
  simp only [Act.eval] at e
  rw [q,e]
theorem Hk {fn:Func} {R:Value→World→Prop} {v:Value} (hr:(results fn a.tmps).run P w=.ok v w) (hd:a.defers=[]) (k:R v w):bodyPost P fn (fun e w'=>∃ v,e=.returned v∧R v w') .ret a w:=bodyPost_ret hr hd ⟨v,rfl,k⟩
end
end
section
open Go.WideShapes Go.ChangeShapes Go.Deep
def ExtC (w:World) (b off sz n:Nat) (f:Nat→List Value):Prop:=b<w.heap.size∧∀ i,i<n→∀ (j:Nat) v,(f i)[j]? = some v→w.cell? ⟨b,off+i*sz+j,none⟩=some v
def ExtA (w:World) (a:Ω) (n c sz:Nat) (f:Nat→List Value):Prop:=
  n≤c∧c≤maxLen∧(0<n→∃ b off,a=some ⟨b,off,none⟩∧ExtC w b off sz n f)
theorem ExtA.at {w:World} {a:Ω} {n c sz:Nat} {f:Nat→List Value} (h:ExtA w a n c sz f):∃ b off,0<n→a=some ⟨b,off,none⟩∧ExtC w b off sz n f:=by
  by_cases hn:0<n
  · obtain ⟨b,off,q⟩:=h.2.2 hn
    exact ⟨b,off,fun _=>q⟩
  · exact ⟨0,0,fun q=>absurd q hn⟩
theorem ExtA.lt {w:World} {a:Ω} {n c sz:Nat} {f:Nat→List Value} (h:ExtA w a n c sz f):n≤maxLen:=Nat.le_trans h.1 h.2.1
theorem ExtC.cell {w0 w:World} {B b off sz n:Nat} {f:Nat→List Value} (h:ExtC w0 b off sz n f) (hB:w0.heap.size≤B) (hw:Below B w0 w) {i j:Nat} {v:Value} (hi:i<n) (hv:(f i)[j]? = some v):w.cell? ⟨b,off+i*sz+j,none⟩=some v:=
  (hw.cell (p:=⟨b,off+i*sz+j,none⟩) (Nat.lt_of_lt_of_le h.1 hB)).trans (h.2 i hi j v hv)
theorem ldX {T:TypeId} {k:TypeDesc} (hu:Tryz.prog.underlying T=some k) (hk:k.isRow=true) {sz:Nat} (hn:(Tryz.prog.info? T).map (·.size)=some sz) {w0 w:World} {B b off n j o:Nat} {f:Nat→List Value} (hl:∀ i,(f i).length=sz) (h:ExtC w0 b off sz n f) (hB:w0.heap.size≤B) (hw:Below B w0 w∧B≤w0.heap.size) (hj:j<n) (ho:off+j*sz=o) :
    (Instr.loadAt T (.pointer (some ⟨b,o,none⟩))).run Tryz.prog w=.ok (.agg (f j).toArray) w:=by
  subst ho
  exact run_loadAt_mid w b (off+j*sz) T (f j) k (fun i v hi=>h.cell hB hw.1 hj hi) hu hk (by rw [hl];exact hn)
end
section
def Ai (l:Λ):ByteArray:=⟨l.toArray⟩
abbrev σ (l : List UInt8) : Value := .string (Ai l)
theorem DD (l:Λ):(Ai l).data.toList=l:=rfl
theorem Fd (l:Λ):(Ai l).size=l.length:=by show l.toArray.size=_;simp
theorem TS (s:ByteArray) (a b:Nat):s.extract a b=Ai ((s.data.toList.drop a).take (b-a)):=by
  apply ByteArray.ext
  rw [ByteArray.data_extract]
  apply Array.ext'
  rw [Array.toList_extract]
  show (s.data.toList.extract a b)=_
  rw [List.extract_eq_take_drop];rfl
def Wl (x:ByteArray):Value:=.string x
abbrev JF (w:World) (a:Ω) (c:Nat) (L:List ByteArray):Prop:=Row w 1 a L.length c (L.map Wl)
abbrev Acl (w:World) (B:Nat) (a:Ω) (c:Nat) (L:List ByteArray):Prop:=Own w B 9 1 a L.length c (L.map Wl)
theorem IH {w:World} {a:Ω} {c:Nat} {L:List ByteArray} (h:JF w a c L) (hn:0<L.length) :
    ∃ b off,a=some ⟨b,off,none⟩∧b<w.heap.size∧∀ i (hi:i<L.length),w.cell? ⟨b,off+i,none⟩=some (.string L[i]):=by
  obtain ⟨b,off,e,hlt,hc⟩:=h.at hn
  exact ⟨b,off,e,hlt,fun i hi=>hc i _ (by simp [hi,Wl])⟩
theorem YH {w:World} {a:Ω} {c:Nat} {L:List ByteArray} (h:JF w a c L):L.length≤9223372036854775807:=by
  have h1:=h.2.1;have h2:=h.2.2.1;unfold maxLen at h2;omega
theorem Ny (X:Λ):(Ai X).toList=X:=by rw [ByteArray.toList_eq];rfl
end
section
theorem Afi {l:List (Nat×Value)} {x:Operand} {v:Value} {xs:List Operand} {vs:List Value} (h:opv l x=some v) (hs:xs.map (opv l)=vs.map some):(x::xs).map (opv l)=(v::vs).map some:=by
  rw [List.map_cons,List.map_cons,h,hs]
def ltN (x y:ByteArray):Bool:=decide (x.data.toList<y.data.toList)
def sE (x:ByteArray):List Value:=[.string x]
section
variable {P:Program} {o:Oper} {a:Act} {N:Nat} {l:List (Nat×Value)}
theorem Acg (h:Kn N l a) {x:Operand} {T:TypeId} (ho:o.op=.call { callee:=.builtin .len,args:=#[x],argTypes:=#[T] }) {X:Λ} (hx:opv l x=some (σ X)) (hu:P.underlying T=some .string) (w:World):(execOp a.eval o).run P w=.ok (.value (ν (X.length:Int))) w:=by
  have z:=Aft (P:=P) h ho hx hu w
  rw [Fd] at z;exact z
theorem Aha (h:Kn N l a) {T:TypeId} {x:Operand} {lo hi:Option Operand} (ho:o.op=.slice T x lo hi none) {v u:Value} (hx:opv l x=some v) {vl vh:Option Value} (hl:lo.map (opv l)=vl.map some) (hh:hi.map (opv l)=vh.map some) (hf:∀ w,(Instr.sliceAt T v vl vh none).run P w=.ok u w) (w:World):(execOp a.eval o).run P w=.ok (.value u) w:=by
  have e1:lo.map a.eval=vl:=by
    cases lo with
    | none=>cases vl with
      | none=>rfl
      | some q=>simp at hl
    | some p=>cases vl with
      | none=>simp at hl
      | some q=>simp at hl;simp [h.op hl]
  have e2:hi.map a.eval=vh:=by
    cases hi with
    | none=>cases vh with
      | none=>rfl
      | some q=>simp at hh
    | some p=>cases vh with
      | none=>simp at hh
      | some q=>simp at hh;simp [h.op hh]
  unfold execOp;rw [ho]
  simp only [h.op hx,e1,e2]
  exact Af (hf w)
theorem slL (T E:TypeId) (hu:P.underlying T=some (.slice E)) (hE:((P.info? E).map (·.size)).isSome=true) (ad:Ω) (n c:Nat) {b:Nat} (hb:b≤c) (w:World) :
    (Instr.sliceAt T (.slice ad n c) none (some (ν (b:Int))) none).run P w=.ok (.slice ad b c) w:=by
  have i1:(b:Int)≤c:=ω
  cases hq:P.info? E with
  | none=>simp [hq] at hE
  | some q=>
    simp [Instr.sliceAt,Instr.slice,Instr.sliceBounds,Instr.sliceBound,asIntOf,underlying,hu,Sem.run_bind,sizeOf,typeInfo,hq,i1]
    cases ad<;>simp [Addr.add]<;>exact fun q=>absurd q ω
theorem Afu (h:Kn N l a) {x y:Operand} {ts:Array TypeId} (ho:o.op=.call { callee:=.builtin .max,args:=#[x,y],argTypes:=ts }) {i j r:Int} {k:IntKind} (hx:opv l x=some (.int k i)) (hy:opv l y=some (.int k j)) (e:(if j>i then j else i)=r) (w:World):(execOp a.eval o).run P w=.ok (.value (.int k r)) w:=by
  subst e
  refine Mp h (xs:=[x,y]) (vs:=[.int k i,.int k j]) ho (by simp [hx,hy]) fun cs=>?_
  simp [builtin,Builtin.max_,Builtin.max2,Sem.run_bind]
end
section
variable {P:Program} {Q:Exit→Act→World→Prop} {o:Oper} {a:Act} {w w':World} {N:Nat} {l:List (Nat×Value)} {K:Act→World→Prop} {cs:List Ch}
end
end
end Go.Proofs.YtpnknncmacjdkaaGreatDoor
