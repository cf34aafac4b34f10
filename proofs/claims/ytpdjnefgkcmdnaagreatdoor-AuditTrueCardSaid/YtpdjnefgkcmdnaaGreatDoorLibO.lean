/- Laws that keep what is large opaque: a whole value stored into the middle of a block, an operation that the kernel runs; lists of structs in cells. -/
import Derived.Test.YtpdjnefgkcmdnaaGreatDoorLibS
namespace Go.Proofs.YtpdjnefgkcmdnaaGreatDoor
open Go.RowKit
set_option linter.unusedSimpArgs false
set_option linter.unusedVariables false

theorem row_blkO {w:World} {g:Nat} {e:TypeId} {L:List Value} (h:Blk w g e L) (sz n:Nat) (hl:L.length=n*sz) (hm:n≤9223372036854775807):Row w sz (some ⟨g,0,none⟩) n n L:=
  ⟨hl,Nat.le_refl _,by unfold maxLen;omega,(fun h=>by cases h),fun hn=>⟨g,0,rfl,h.lt,fun j u hu=>by
    obtain ⟨h1,h2⟩:=List.getElem?_eq_some_iff.1 hu
    rw [Nat.zero_add,h.cell h1,h2]⟩⟩
theorem own_someO {w:World} {B:Nat} {e:TypeId} {sz:Nat} {a:Option Addr} {n c:Nat} {cs:List Value} (h:Own w B e sz a n c cs) (hn:0<n):∃ g,a=some ⟨g,0,none⟩:=by
  obtain ⟨h0,h⟩:=h
  rcases h with ⟨hv,h1⟩ | ⟨g,cap,cur,hv,_⟩
  · omega
  · cases hv;exact ⟨g,rfl⟩
theorem blk_newO {W:World} {n:Nat} (h:W.heap.size=n) (e:TypeId) (L:List Value):Blk (W.alloc (.cells L.toArray e)) n e L:=by subst h;exact heap_alloc_new W _
theorem albO (W:World) (o:Obj):Below W.heap.size W (W.alloc o):=(Below.refl _ W).alloc (Nat.le_refl _) o
/-- lists of structs, all cells of one behind the other -/
theorem flat_len {α:Type} (enc:α→List Value) (sz:Nat) (h:∀ x,(enc x).length=sz):∀ L:List α,(L.flatMap enc).length=L.length*sz
  | []=>by simp
  | x::r=>by
    show (enc x++r.flatMap enc).length=_
    rw [List.length_append,h,flat_len enc sz h r,List.length_cons,Nat.succ_mul];omega
theorem flat_get {α:Type} (enc:α→List Value) (sz:Nat) (h:∀ x,(enc x).length=sz):∀ (L:List α) (i j:Nat) (hi:i<L.length),j<sz→(L.flatMap enc)[i*sz+j]? = (enc L[i])[j]?
  | x::r,0,j,_,hj=>by
    show (enc x++r.flatMap enc)[0*sz+j]? = _
    rw [Nat.zero_mul,Nat.zero_add,List.getElem?_append_left (by rw [h];exact hj)];rfl
  | x::r,i+1,j,hi,hj=>by
    show (enc x++r.flatMap enc)[(i+1)*sz+j]? = _
    rw [List.getElem?_append_right (by rw [h,Nat.succ_mul];omega),h,Nat.succ_mul,show i*sz+sz+j-sz=i*sz+j by omega,flat_get enc sz h r i j (by simpa using hi) hj];rfl
theorem flat_set {α:Type} (enc:α→List Value) (sz:Nat) (h:∀ x,(enc x).length=sz):∀ (L:List α) (i:Nat) (y:α),i<L.length→(L.set i y).flatMap enc=splice (L.flatMap enc) (i*sz) (enc y)
  | x::r,0,y,_=>by
    show enc y++r.flatMap enc=splice (enc x++r.flatMap enc) (0*sz) (enc y)
    unfold splice
    simp [h]
  | x::r,i+1,y,hi=>by
    show enc x++(r.set i y).flatMap enc=splice (enc x++r.flatMap enc) ((i+1)*sz) (enc y)
    rw [flat_set enc sz h r i y (by simpa using hi)]
    unfold splice
    have hx:=h x
    have e1:(i+1)*sz=(enc x).length+i*sz:=by rw [hx,Nat.succ_mul];omega
    rw [e1,List.take_length_add_append,Nat.add_assoc,List.drop_length_add_append]
    simp only [List.append_assoc]
/-- cells of one's own row, some of them stored anew -/
theorem own_splice {w:World} {B:Nat} {e:TypeId} {sz g n c:Nat} {cs:List Value} (h:Own w B e sz (some ⟨g,0,none⟩) n c cs) :
    ∃ L,Blk w g e L∧n*sz≤L.length∧B≤g∧∀ w' off (vs:List Value),off+vs.length≤n*sz→Blk w' g e (splice L off vs)→Own w' B e sz (some ⟨g,0,none⟩) n c (splice cs off vs):=by
  have h0:=h.1
  obtain ⟨L,hb,hl,hB,ht,hnc,hc⟩:=Own.blk h
  have hle:n*sz≤L.length:=by rw [hl];exact Nat.mul_le_mul_right sz hnc
  refine ⟨L,hb,hle,hB,fun w' off vs hv hb'=>?_⟩
  have hs:(splice L off vs).length=L.length:=length_splice L off vs (by omega)
  have q:=Own.of_blk (B:=B) (sz:=sz) (n:=n) (c:=c) hb' hB hnc hc (by rw [hs,hl])
  have e1:L=cs++L.drop (n*sz):=by rw [← ht,List.take_append_drop]
  have e2:(splice L off vs).take (n*sz)=splice cs off vs:=by
    rw [e1,splice_append cs _ vs off (by omega)]
    exact List.take_left' (by rw [length_splice cs off vs (by omega)];exact h0)
  rw [e2] at q
  exact q
end Go.Proofs.YtpdjnefgkcmdnaaGreatDoor
