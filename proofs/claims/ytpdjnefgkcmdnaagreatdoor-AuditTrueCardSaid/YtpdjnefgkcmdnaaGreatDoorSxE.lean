/- lists that were handed in -/
import Derived.Test.YtpdjnefgkcmdnaaGreatDoorSxD
import Derived.Deep.Slices
import Derived.Deep.Fields
import Derived.ChangeSame
namespace Go.Proofs.YtpdjnefgkcmdnaaGreatDoor
open Go.RowKit
open Go.WideShapes Go.ChangeShapes Go.Deep
set_option linter.unusedSimpArgs false
set_option linter.unusedVariables false
set_option maxRecDepth 100000
/-- n elements of sz cells at a place -/
def ExtC (w:World) (b off sz n:Nat) (f:Nat→List Value):Prop:=b<w.heap.size∧∀ i,i<n→∀ (j:Nat) v,(f i)[j]? = some v→w.cell? ⟨b,off+i*sz+j,none⟩=some v
/-- a list that was handed in -/
def ExtA (w:World) (a:Option Addr) (n c sz:Nat) (f:Nat→List Value):Prop:=
  n≤c∧c≤maxLen∧(0<n→∃ b off,a=some ⟨b,off,none⟩∧ExtC w b off sz n f)
theorem ExtA.at {w:World} {a:Option Addr} {n c sz:Nat} {f:Nat→List Value} (h:ExtA w a n c sz f):∃ b off,0<n→a=some ⟨b,off,none⟩∧ExtC w b off sz n f:=by
  by_cases hn:0<n
  · obtain ⟨b,off,q⟩:=h.2.2 hn
    exact ⟨b,off,fun _=>q⟩
  · exact ⟨0,0,fun q=>absurd q hn⟩
theorem ExtA.lt {w:World} {a:Option Addr} {n c sz:Nat} {f:Nat→List Value} (h:ExtA w a n c sz f):n≤maxLen:=Nat.le_trans h.1 h.2.1
theorem ExtC.cell {w0 w:World} {B b off sz n:Nat} {f:Nat→List Value} (h:ExtC w0 b off sz n f) (hB:w0.heap.size≤B) (hw:Below B w0 w) {i j:Nat} {v:Value} (hi:i<n) (hv:(f i)[j]? = some v):w.cell? ⟨b,off+i*sz+j,none⟩=some v:=
  (hw.cell (p:=⟨b,off+i*sz+j,none⟩) (Nat.lt_of_lt_of_le h.1 hB)).trans (h.2 i hi j v hv)
theorem ldX {T:TypeId} {k:TypeDesc} (hu:Tryz.prog.underlying T=some k) (hk:k.isRow=true) {sz:Nat} (hn:(Tryz.prog.info? T).map (·.size)=some sz) {w0 w:World} {B b off n j o:Nat} {f:Nat→List Value} (hl:∀ i,(f i).length=sz) (h:ExtC w0 b off sz n f) (hB:w0.heap.size≤B) (hw:Below B w0 w∧B≤w0.heap.size) (hj:j<n) (ho:off+j*sz=o) :
    (Instr.loadAt T (.pointer (some ⟨b,o,none⟩))).run Tryz.prog w=.ok (.agg (f j).toArray) w:=by
  subst ho
  exact run_loadAt_mid w b (off+j*sz) T (f j) k (fun i v hi=>h.cell hB hw.1 hj hi) hu hk (by rw [hl];exact hn)
theorem ldXc {T:TypeId} {k:TypeDesc} (hu:Tryz.prog.underlying T=some k) (hk:k.isRow=false) {sz:Nat} {w0 w:World} {B b off n j i o:Nat} {f:Nat→List Value} (h:ExtC w0 b off sz n f) (hB:w0.heap.size≤B) (hw:Below B w0 w∧B≤w0.heap.size) (hj:j<n) (ho:off+j*sz+i=o) {v:Value} (hv:(f j)[i]? = some v) :
    (Instr.loadAt T (.pointer (some ⟨b,o,none⟩))).run Tryz.prog w=.ok v w:=by
  subst ho
  exact ldC hu hk (h.cell hB hw.1 hj hv)
theorem cell_spot {w:World} {x:Addr} {v:Value} (h:w.cell? x=some v):x.spot=none:=by
  unfold World.cell? at h
  cases hs:x.spot with
  | none=>rfl
  | some q=>simp [hs] at h;split at h<;>simp_all
theorem open_ext {α H:Type} {enc:TypeId×Value→H} {W:World} {base:Nat} {held:Bool} {a:Option Addr} {n c:Nat} {d:DataW H} {p:List MemPlace} {t e:TypeId} {sz:Nat} (z:α) (cells:α→List Value) (good:α→Prop)
    (ht:Tryz.prog.underlying t=some (.slice e)) (hk:Tryz.prog.cellsOf e=sz) (hs:0<sz)
    (hE:∀ (fuel:Nat) (cs:List Value) (x:DataW H×List MemPlace),cs.length=sz→DataW.trod enc Tryz.prog W base (fun _=>true) held fuel e cs=some x→∃ v,cs=cells v∧good v)
    (h:DataW.Trod enc Tryz.prog W base (fun _=>true) held t (.slice a n c) d p):∃ f:Nat→α,ExtA W a n c sz (fun i=>cells (f i))∧∀ i,i<n→good (f i):=by
  obtain ⟨fuel,hf⟩:=h
  rcases open_slice ht hf with ⟨hcs,_⟩ | ⟨x,len,cap,m,q,D,Pl,hcs,_,hl,hm,hmm,_,hi⟩
  · simp [Value.cells] at hcs
    obtain ⟨rfl,rfl,rfl⟩:=hcs
    exact ⟨fun _=>z,⟨Nat.le_refl _,Nat.zero_le _,fun h=>absurd h (by omega)⟩,fun i h=>absurd h (by omega)⟩
  · simp [Value.cells] at hcs
    obtain ⟨rfl,rfl,rfl⟩:=hcs
    have hnm:n≤m:=by rw [hmm];split<;>omega
    have one:∀ i,∃ v:α,i<n→(cells v).length=sz∧(∀ (j:Nat) u,(cells v)[j]? = some u→W.cell? ((x.add (i*sz)).add j)=some u)∧good v:=by
      intro i
      by_cases hlt:i<n
      · obtain ⟨cs',hc,htr⟩:=hi i (by omega)
        rw [hk] at hc
        obtain ⟨_,hlen,hat⟩:=World.cells?_some hc
        obtain ⟨v,e1,hg⟩:=hE q cs' _ hlen htr
        subst e1
        refine ⟨v,fun _=>⟨hlen,fun j u hj=>?_,hg⟩⟩
        obtain ⟨h1,h2⟩:=List.getElem?_eq_some_iff.1 hj
        have:=hat j (by omega)
        rw [this,← h2]
        exact List.getElem?_eq_getElem h1
      · exact ⟨z,fun h=>absurd h hlt⟩
    obtain ⟨f,hf⟩:=Classical.skolem.1 one
    refine ⟨f,⟨hl,hm,fun hn=>?_⟩,fun i hi=>(hf i hi).2.2⟩
    have hl0:=(hf 0 hn).1
    obtain ⟨u,hu⟩:∃ u,(cells (f 0))[0]? = some u:=⟨_,List.getElem?_eq_getElem (by omega)⟩
    have hq:=(hf 0 hn).2.1 0 u hu
    rw [Nat.zero_mul,show (x.add 0).add 0=x from by unfold Addr.add;simp] at hq
    have hsp:=cell_spot hq
    obtain ⟨b,off,sp⟩:=x
    simp at hsp
    subst hsp
    refine ⟨b,off,rfl,?_,fun i hi j v hj=>?_⟩
    · exact World.block_lt_of_cell? W _ hq
    · have h0:=(hf i hi).2.1 j v hj
      rw [Addr.add_mid,Addr.add_mid] at h0
      exact h0
end Go.Proofs.YtpdjnefgkcmdnaaGreatDoor
