/- Structs and arrays of several cells, in a block of their own: stored whole; results that lie in a cell. -/
import Derived.Test.YtpdjnefgkcmdnaaGreatDoorLibV
import Derived.Laws.Rows
namespace Go.Proofs.YtpdjnefgkcmdnaaGreatDoor
open Go.RowKit
set_option linter.unusedSimpArgs false
set_option linter.unusedVariables false

theorem sg_set {w w':World} {h:Nat} (g:w.grownBy w' (some h)) (i:Nat) (v:Value):w.grownBy (w'.setCell ⟨h,i,none⟩ v) (some h):=
  ⟨g.os,g.tape,g.output,by simp [World.setCell];exact g.size,fun k hk hne=>by
    rw [Below.heap_setCell _ _ _ _ (by rintro rfl;exact hne rfl)];exact g.block k hk hne⟩
theorem sg_refl (w:World) (r:Option Nat):w.grownBy w r:=⟨rfl,rfl,rfl,Nat.le_refl _,fun _ _ _=>rfl⟩
theorem sg_trans {w w1 w2:World} {r:Option Nat} (a:w.grownBy w1 r) (b:w1.grownBy w2 r):w.grownBy w2 r:=
  ⟨b.os.trans a.os,b.tape.trans a.tape,b.output.trans a.output,Nat.le_trans a.size b.size,fun k hk hne=>(b.block k (Nat.lt_of_lt_of_le hk a.size) hne).trans (a.block k hk hne)⟩
theorem Blk.there {w:World} {g:Nat} {e:TypeId} {L:List Value} (h:Blk w g e L) (o n:Nat) (hn:o+n≤L.length):w.there g o n:=fun j hj=>by
  rw [Blk.cell h (show o+j<L.length by omega)];exact ⟨rfl,Blk.frozen h _⟩
theorem Blk.setCells {g:Nat} {e:TypeId}:∀ (vs:List Value) (o:Nat) (w:World) (L:List Value),Blk w g e L→o+vs.length≤L.length→Blk (w.setCells g o vs) g e (splice L o vs)∧w.grownBy (w.setCells g o vs) (some g)
  | [],o,w,L,h,_=>by
    refine ⟨?_,sg_refl w _⟩
    simp [splice];exact h
  | v::r,o,w,L,h,hl=>by
    simp only [List.length_cons] at hl
    have h1:=Blk.set h o v
    obtain ⟨h2,h3⟩:=Blk.setCells r (o+1) _ _ h1 (by simp;omega)
    refine ⟨?_,sg_trans (sg_set (sg_refl w _) o v) h3⟩
    have e1:splice (L.set o v) (o+1) r=splice L o (v::r):=by
      apply List.ext_getElem?
      intro i
      rw [getElem?_splice _ _ _ (by simp;omega),getElem?_splice _ _ _ (by simp;omega)]
      by_cases h0:i=o
      · subst h0
        rw [if_neg (by omega),if_pos (by simp)]
        simp [List.getElem?_set,show i<L.length by omega]
      · by_cases h4:o+1≤i∧i<o+1+r.length
        · rw [if_pos h4,if_pos (by simp;omega),show i-o=(i-(o+1))+1 by omega,List.getElem?_cons_succ]
        · rw [if_neg h4,if_neg (by simp;omega),List.getElem?_set_ne (by omega)]
    rw [← e1];exact h2
theorem results_cell1 {P:Program} {fn:Func} {c:Tmp} {T:TypeId} (h:fn.results=#[.cell c T]) {tmps:Array Value} {w:World} {g:Nat} {e:TypeId} {L:List Value} {k:TypeDesc} (hc:tmps.getD c undef=.pointer (some ⟨g,0,none⟩)) (hb:Blk w g e L)
    (hu:P.underlying T=some k) (hk:k.isRow=true) (hn:(P.info? T).map (·.size)=some L.length) :
    (results fn tmps).run P w=.ok (.agg L.toArray) w:=by
  have hv:=run_loadVar_mid (P:=P) w g 0 T L k hb.range hu hk hn
  have hc':tmps[c]?.getD undef=.pointer (some ⟨g,0,none⟩):=by simpa using hc
  simp [results,h,hc',asAddr,hv]
theorem results_cell2 {P:Program} {fn:Func} {c u:Tmp} {T:TypeId} (h:fn.results=#[.cell c T,.tmp u]) {tmps:Array Value} {w:World} {g:Nat} {e:TypeId} {L:List Value} {k:TypeDesc} (hc:tmps.getD c undef=.pointer (some ⟨g,0,none⟩)) (hb:Blk w g e L)
    (hu:P.underlying T=some k) (hk:k.isRow=true) (hn:(P.info? T).map (·.size)=some L.length) :
    (results fn tmps).run P w=.ok (.tuple #[.agg L.toArray,tmps.getD u undef]) w:=by
  have hv:=run_loadVar_mid (P:=P) w g 0 T L k hb.range hu hk hn
  have hc':tmps[c]?.getD undef=.pointer (some ⟨g,0,none⟩):=by simpa using hc
  simp [results,h,hc',asAddr,hv]

/-- cells filled from the head -/
def pfill (C:List Value) (z:Value) (n:Nat):List Value:=C.take n++List.replicate (C.length-n) z
end Go.Proofs.YtpdjnefgkcmdnaaGreatDoor
