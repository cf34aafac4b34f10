/- Parts of the proof. -/
import Derived.Shelf.Abstract
import Derived.BigRegion
import Derived.Test.YtjgajoljgepioaaGreatQab
namespace Go.Proofs.YtjgajoljgepioaaGreat
open Go.RowKit
set_option linter.unusedSimpArgs false
set_option linter.unusedVariables false
set_option linter.unusedSectionVars false
set_option maxRecDepth 100000
set_option maxHeartbeats 8000000
section
attribute [local go_sem] Oper.semAt_some
def SeqK {α:Type} (F:Fence) (n:Nat) (P:Program) (g:Nat) (lb:Array Value) (encs:α→Array Value) (S Sp:List α→Prop) (N:Nat) (w0:World) (Cs:World→Prop):Prop:=
  ∀ (l:Nat) (J Jx:List α→World→Prop) (W:World),Below w0.heap.size w0 W→StabC W.heap.size J→StabC W.heap.size Jx→(∀ pre W1,J pre W1→Cs W1) →
    (∀ pre x W1,J pre W1→pre.length<N→Sp (pre++[x])→YieldAt F (n-1) P l (encs x) W1 fun e W'=>
      (e=.returned (.bool true)∧J (pre++[x]) W'∧KeepUp W.heap.size W1 W')∨(e=.returned (.bool false)∧Jx (pre++[x]) W')) →
    J [] W →
    CallsIn F n P g (#[.func (.yield l) #[] #[]]++lb) W fun e W'=>(∃ v,e=.returned v)∧((∃ xs,S xs∧J xs W')∨(∃ pre,Sp pre∧Jx pre W'))
theorem Kj {F:Fence} {n:Nat} {P:Program} {α:Type} {g:Operand} {ps:Array Tmp} {assign body:Code} {Q:Exit→Act→World→Prop} {a:Act} {w:World}
    (hro:F.round=none) (h1:1≤n) {gf:Nat} {lb:Array Value} (hg:a.eval g=.func (.func gf) #[] lb) (hFg:F.fn gf) (eg:∀ args w,(callFunc gf args).run P w=.ok (.enter gf args) w)
    {encs:α→Array Value} {S Sp:List α→Prop} {N:Nat} {w0:World} {Cs:World→Prop} (hseq:SeqK F (n-1) P gf lb encs S Sp N w0 Cs) (hb0:Below w0.heap.size w0 w) (hps:∀ x,(encs x).size=ps.size)
    (I:List α→World→Prop) (Ix:Code→List α→World→Prop) (hI:StabC w.heap.size I) (hIx:∀ c,StabC w.heap.size (Ix c)) (h0:I [] w) (hCs:∀ pre W,I pre W→Cs W)
    (Ax:α→Act→World→Prop) (hAx:∀ x a' X l o o',Ax x a' X→X.heap[l]? = some (.loop o)→Ax x a' (X.putObj l o'))
    (hassign:∀ (l:Nat) (pre:List α) (x:α) (W:World) (K:Act→World→Prop),I pre W→w.heap.size≤W.heap.size→(∀ a' W',KeepUp w.heap.size W W'→I pre W'→Ax x a' W'→K a' W') →
      assign.wpIn (F.inRound l) (n-1-1) P (Exit.then K (fun _ _ _=>False)) { tmps:=(ps.zip (encs x)).foldl (fun t (p,v)=>t.setIfInBounds p v) a.tmps,defers:=[] } W)
    (hbody:∀ (l:Nat) (pre:List α) (x:α) (a':Act) (W:World),w.heap.size≤l→(∃ r,W.heap[l]? = some (.loop r))→I pre W→Ax x a' W→w.heap.size≤W.heap.size→pre.length<N→Sp (pre++[x])→body.wpIn (F.inRound l) (n-1-1) P (OO w.heap.size I Ix (pre++[x]) W) a' W)
    (hdone:∀ (D:Nat) (xs:List α) (W:World),w.heap.size≤D→S xs→I xs W→W.heap[D]? = some (.deferred (some []))→Q .normal { a with defers:={ target:=.collected D,args:=#[] }::a.defers } W)
    (hstop:∀ (D:Nat) (c:Code) (pre:List α) (W:World),w.heap.size≤D→Sp pre→Ix c pre W→W.heap[D]? = some (.deferred (some []))→c.wpIn F n P Q { a with defers:={ target:=.collected D,args:=#[] }::a.defers } W) :
    (Code.rangeFunc g ps assign body).wpIn F n P Q a w:=by
  refine wpIn_rangeFunc ?_
  intro fn hfn
  rw [hro]
  obtain ⟨rec,hrec⟩:∃ rec:LoopState→Option Code→Loop,rec=fun st pe=>{ state:=st,pending:=pe,fn,tmps:=a.tmps,params:=ps,assign,body,defers:=w.heap.size }:=⟨_,rfl⟩
  obtain ⟨W1,hW1⟩:∃ W1,(w.alloc (.deferred (some []))).alloc (.loop (rec .ready none))=W1:=⟨_,rfl⟩
  have hs1:W1.heap.size=w.heap.size+2:=by rw [← hW1];simp
  have hL1:W1.heap[w.heap.size+1]? = some (.loop (rec .ready none)):=by
    rw [← hW1];have:=World.alloc_heap_new (w.alloc (.deferred (some []))) (.loop (rec .ready none));rwa [World.size_alloc] at this
  have hK1:W1.heap[w.heap.size]? = some (.deferred (some [])):=by
    rw [← hW1];exact (Below.heap_alloc _ _ _ (by simp)).trans (World.alloc_heap_new w _)
  have hI1:I [] W1:=by rw [← hW1];exact hI.alloc (by simp) (hI.alloc (Nat.le_refl _) h0 _) _
  have hb1:Below w0.heap.size w0 W1:=by
    rw [← hW1];exact hb0.trans ((((Below.refl _ w).alloc (Nat.le_refl _) _).alloc (by simp) _).mono hb0.size)
  refine ⟨w.heap.size+1,[{ target:=.collected w.heap.size,args:=#[] }],W1,{ target:=.fn (.func gf) lb,args:=#[.func (.yield (w.heap.size+1)) #[] #[]] },W1,gf,
    #[.func (.yield (w.heap.size + 1)) #[] #[]] ++ lb, W1, ?_, ?_, ?_, ?_, fun _ => h1, ?_⟩
  · rw [← hW1,hrec];exact run_enterLoop_outer _ _ _ _ _
  · simp only [resolve,hg]
    simp [go_sem]
  · intro f' hf';simp [Target.leads] at hf';subst hf';exact hFg
  · simp [invoke,go_sem,eg]
  · refine (hseq (w.heap.size+1)
      (fun pre W=>I pre W∧W.heap[w.heap.size+1]? = some (.loop (rec .ready none))∧W.heap[w.heap.size]? = some (.deferred (some [])))
      (fun pre W=>∃ c,Ix c pre W∧W.heap[w.heap.size+1]? = some (.loop (rec .done (some c)))∧W.heap[w.heap.size]? = some (.deferred (some [])))
      W1 hb1
      (fun s A B hs hb=>⟨hI s A B hs.1 (hb.mono ω),(hb.block _ ω).trans hs.2.1,(hb.block _ ω).trans hs.2.2⟩)
      (fun s A B hs hb=>by
        obtain ⟨c,hc,hl,hk⟩:=hs
        exact ⟨c,hIx c s A B hc (hb.mono ω),(hb.block _ ω).trans hl,(hb.block _ ω).trans hk⟩)
      (fun pre W h=>hCs pre W h.1) ?_ ⟨hI1,hL1,hK1⟩).mono ?_
    · -- one round
      rintro pre x W ⟨hi,hl,hk⟩ hlen hsp
      have hlt:w.heap.size+1<W.heap.size:=(Array.getElem?_eq_some_iff.1 hl).1
      have hy:=run_yield (P:=P) (args:=encs x) hl (by rw [hrec];exact hps x)
      rw [hrec] at hy
      refine ⟨fn,_,assign,body,hy,roundIn_of_wpIn hfn (hassign _ pre x W _ hi ω ?_)⟩
      clear hy
      intro a' Wa hka hia hax
      have hla:=(hka.2 _ ω hlt).trans hl
      have hkk:=(hka.2 _ ω (ω:w.heap.size<W.heap.size)).trans hk
      have hlta:w.heap.size+1<Wa.heap.size:=Nat.lt_of_lt_of_le hlt hka.1
      refine ⟨_,run_beginRound hla (by rw [hrec]),?_⟩
      have hl2:(Wa.putObj (w.heap.size+1) (.loop { rec .ready none with state:=.busy })).heap[w.heap.size+1]? = some (.loop { rec .ready none with state:=.busy }):=World.putObj_heap_same hlta
      have hk2:(Wa.putObj (w.heap.size+1) (.loop { rec .ready none with state:=.busy })).heap[w.heap.size]? = some (.deferred (some [])):=(World.putObj_heap_other ω).trans hkk
      have hup:∀ (X:World) (o:Obj),KeepUp W1.heap.size X (X.putObj (w.heap.size+1) o):=fun X o=>⟨by rw [World.putObj_size];exact Nat.le_refl _,fun k h1 h2=>World.putObj_heap_other ω⟩
      refine wpIn_mono (hbody _ pre x a' _ ω ⟨_,hl2⟩ (hI.putObj hia ω _) (hAx _ _ _ _ _ _ hax hla) (by rw [World.putObj_size];omega) hlen hsp) ?_
      have fin:∀ (jump:Option Code) (W3:World),KeepUp w.heap.size (Wa.putObj (w.heap.size+1) (.loop { rec .ready none with state:=.busy })) W3 →
          (Instr.endRound (w.heap.size+1) jump).run P W3=.ok (.bool jump.isNone) (W3.putObj (w.heap.size+1) (.loop (rec (if jump.isNone then .ready else .done) jump))) ∧
          (W3.putObj (w.heap.size+1) (.loop (rec (if jump.isNone then .ready else .done) jump))).heap[w.heap.size+1]? = some (.loop (rec (if jump.isNone then .ready else .done) jump)) ∧
          (W3.putObj (w.heap.size+1) (.loop (rec (if jump.isNone then .ready else .done) jump))).heap[w.heap.size]? = some (.deferred (some [])):=fun jump W3 hk3=>by
        have hl3:=(hk3.2 _ ω (by rw [World.putObj_size];exact hlta)).trans hl2
        have hk4:=(hk3.2 _ (Nat.le_refl _) (by rw [World.putObj_size];omega)).trans hk2
        have:=run_endRound (P:=P) jump hl3
        rw [hrec] at this ⊢
        exact ⟨this,World.putObj_heap_same (Array.getElem?_eq_some_iff.1 hl3).1,(World.putObj_heap_other ω).trans hk4⟩
      rintro e a3 W3 hp
      cases e with
      | normal=>
        obtain ⟨hk3,hi3⟩:=hp
        obtain ⟨hr,hl4,hk4⟩:=fin none W3 hk3
        exact ⟨_,_,hr,.inl ⟨rfl,⟨hI.putObj hi3 ω _,hl4,hk4⟩,(((hka.mono ω).trans (hup _ _)).trans (hk3.mono ω)).trans (hup _ _)⟩⟩
      | ret=>
        obtain ⟨hk3,hi3⟩:=hp
        obtain ⟨hr,hl4,hk4⟩:=fin (some .ret) W3 hk3
        exact ⟨_,_,hr,.inr ⟨rfl,.ret,(hIx _).putObj hi3 ω _,hl4,hk4⟩⟩
      | exit id=>
        obtain ⟨hk3,hi3⟩:=hp
        obtain ⟨hr,hl4,hk4⟩:=fin (some (.exit id)) W3 hk3
        exact ⟨_,_,hr,.inr ⟨rfl,.exit id,(hIx _).putObj hi3 ω _,hl4,hk4⟩⟩
      | goto t=>
        obtain ⟨hk3,hi3⟩:=hp
        obtain ⟨hr,hl4,hk4⟩:=fin (some (.goto t)) W3 hk3
        exact ⟨_,_,hr,.inr ⟨rfl,.goto t,(hIx _).putObj hi3 ω _,hl4,hk4⟩⟩
      | panic ch=>exact hp.elim
      | outgrown=>exact hp.elim
    · -- behind the iterator
      rintro e W2 ⟨⟨v,rfl⟩,(⟨xs,hS,hi,hl,hk⟩ | ⟨pre,hSp,c,hi,hl,hk⟩)⟩
      · exact ⟨none,_,by have:=run_endLoop (P:=P) hl (by rw [hrec];simp);rw [hrec] at this;exact this,hdone _ xs _ (Nat.le_refl _) hS (hI.putObj hi ω _) ((World.putObj_heap_other ω).trans hk)⟩
      · exact ⟨some c,_,by have:=run_endLoop (P:=P) hl (by rw [hrec];simp);rw [hrec] at this;exact this,hstop _ c pre _ (Nat.le_refl _) hSp ((hIx c).putObj hi ω _) ((World.putObj_heap_other ω).trans hk)⟩
theorem ID {a:Array Value} {p:Nat} (h:p<a.size) (v u:Value):(a.setIfInBounds p v).getD p u=v:=by simp [Array.getD,h]
theorem JH {F:Fence} {n:Nat} {P:Program} {α:Type} {g:Operand} {ps:Array Tmp} {assign body:Code} {Q:Exit→Act→World→Prop} {a:Act} {w:World}
    {l₀:Nat} {r₀:Loop} (hro:F.round=some l₀) (hl₀:w.heap[l₀]? = some (.loop r₀)) (h1:1≤n) {gf:Nat} {lb:Array Value} (hg:a.eval g=.func (.func gf) #[] lb) (hFg:F.fn gf) (eg:∀ args w,(callFunc gf args).run P w=.ok (.enter gf args) w)
    {encs:α→Array Value} {S Sp:List α→Prop} {N:Nat} {w0:World} {Cs:World→Prop} (hseq:SeqK F (n-1) P gf lb encs S Sp N w0 Cs) (hb0:Below w0.heap.size w0 w) (hps:∀ x,(encs x).size=ps.size)
    (I:List α→World→Prop) (Ix:Code→List α→World→Prop) (hI:StabC w.heap.size I) (hIx:∀ c,StabC w.heap.size (Ix c)) (h0:I [] w) (hCs:∀ pre W,I pre W→Cs W)
    (Ax:α→Act→World→Prop) (hAx:∀ x a' X l o o',Ax x a' X→X.heap[l]? = some (.loop o)→Ax x a' (X.putObj l o'))
    (hassign:∀ (l:Nat) (pre:List α) (x:α) (W:World) (K:Act→World→Prop),I pre W→w.heap.size≤W.heap.size→(∀ a' W',KeepUp w.heap.size W W'→I pre W'→Ax x a' W'→K a' W') →
      assign.wpIn (F.inRound l) (n-1-1) P (Exit.then K (fun _ _ _=>False)) { tmps:=(ps.zip (encs x)).foldl (fun t (p,v)=>t.setIfInBounds p v) a.tmps,defers:=[] } W)
    (hbody:∀ (l:Nat) (pre:List α) (x:α) (a':Act) (W:World),w.heap.size≤l→(∃ r,W.heap[l]? = some (.loop r))→I pre W→Ax x a' W→w.heap.size≤W.heap.size→pre.length<N→Sp (pre++[x])→body.wpIn (F.inRound l) (n-1-1) P (OO w.heap.size I Ix (pre++[x]) W) a' W)
    (hdone:∀ (xs:List α) (W:World),S xs→I xs W→Q .normal a W)
    (hstop:∀ (c:Code) (pre:List α) (W:World),Sp pre→Ix c pre W→c.wpIn F n P Q a W) :
    (Code.rangeFunc g ps assign body).wpIn F n P Q a w:=by
  refine wpIn_rangeFunc ?_
  intro fn hfn
  rw [hro]
  obtain ⟨rec,hrec⟩:∃ rec:LoopState→Option Code→Loop,rec=fun st pe=>{ state:=st,pending:=pe,fn,tmps:=a.tmps,params:=ps,assign,body,defers:=r₀.defers }:=⟨_,rfl⟩
  obtain ⟨W1,hW1⟩:∃ W1,w.alloc (.loop (rec .ready none))=W1:=⟨_,rfl⟩
  have hs1:W1.heap.size=w.heap.size+1:=by rw [← hW1];simp
  have hL1:W1.heap[w.heap.size]? = some (.loop (rec .ready none)):=by rw [← hW1];exact World.alloc_heap_new w _
  have hI1:I [] W1:=by rw [← hW1];exact hI.alloc (Nat.le_refl _) h0 _
  have hb1:Below w0.heap.size w0 W1:=by
    rw [← hW1];exact hb0.trans (((Below.refl _ w).alloc (Nat.le_refl _) _).mono hb0.size)
  refine ⟨w.heap.size,[],W1,{ target:=.fn (.func gf) lb,args:=#[.func (.yield w.heap.size) #[] #[]] },W1,gf,
    #[.func (.yield w.heap.size) #[] #[]] ++ lb, W1, ?_, ?_, ?_, ?_, fun _ => h1, ?_⟩
  · rw [← hW1,hrec];exact run_enterLoop_inner hl₀ _ _ _ _ _
  · simp only [resolve,hg]
    simp [go_sem]
  · intro f' hf';simp [Target.leads] at hf';subst hf';exact hFg
  · simp [invoke,go_sem,eg]
  · refine (hseq w.heap.size
      (fun pre W=>I pre W∧W.heap[w.heap.size]? = some (.loop (rec .ready none)))
      (fun pre W=>∃ c,Ix c pre W∧W.heap[w.heap.size]? = some (.loop (rec .done (some c))))
      W1 hb1
      (fun s A B hs hb=>⟨hI s A B hs.1 (hb.mono ω),(hb.block _ ω).trans hs.2⟩)
      (fun s A B hs hb=>by
        obtain ⟨c,hc,hl⟩:=hs
        exact ⟨c,hIx c s A B hc (hb.mono ω),(hb.block _ ω).trans hl⟩)
      (fun pre W h=>hCs pre W h.1) ?_ ⟨hI1,hL1⟩).mono ?_
    · -- one round
      rintro pre x W ⟨hi,hl⟩ hlen hsp
      have hlt:w.heap.size<W.heap.size:=(Array.getElem?_eq_some_iff.1 hl).1
      have hy:=run_yield (P:=P) (args:=encs x) hl (by rw [hrec];exact hps x)
      rw [hrec] at hy
      refine ⟨fn,_,assign,body,hy,roundIn_of_wpIn hfn (hassign _ pre x W _ hi ω ?_)⟩
      clear hy
      intro a' Wa hka hia hax
      have hla:=(hka.2 _ (Nat.le_refl _) hlt).trans hl
      have hlta:w.heap.size<Wa.heap.size:=Nat.lt_of_lt_of_le hlt hka.1
      refine ⟨_,run_beginRound hla (by rw [hrec]),?_⟩
      have hl2:(Wa.putObj w.heap.size (.loop { rec .ready none with state:=.busy })).heap[w.heap.size]? = some (.loop { rec .ready none with state:=.busy }):=World.putObj_heap_same hlta
      have hup:∀ (X:World) (o:Obj),KeepUp W1.heap.size X (X.putObj w.heap.size o):=fun X o=>⟨by rw [World.putObj_size];exact Nat.le_refl _,fun k h1 h2=>World.putObj_heap_other ω⟩
      refine wpIn_mono (hbody _ pre x a' _ (Nat.le_refl _) ⟨_,hl2⟩ (hI.putObj hia (Nat.le_refl _) _) (hAx _ _ _ _ _ _ hax hla) (by rw [World.putObj_size];omega) hlen hsp) ?_
      have fin:∀ (jump:Option Code) (W3:World),KeepUp w.heap.size (Wa.putObj w.heap.size (.loop { rec .ready none with state:=.busy })) W3 →
          (Instr.endRound w.heap.size jump).run P W3=.ok (.bool jump.isNone) (W3.putObj w.heap.size (.loop (rec (if jump.isNone then .ready else .done) jump))) ∧
          (W3.putObj w.heap.size (.loop (rec (if jump.isNone then .ready else .done) jump))).heap[w.heap.size]? = some (.loop (rec (if jump.isNone then .ready else .done) jump)):=fun jump W3 hk3=>by
        have hl3:=(hk3.2 _ (Nat.le_refl _) (by rw [World.putObj_size];exact hlta)).trans hl2
        have:=run_endRound (P:=P) jump hl3
        rw [hrec] at this ⊢
        exact ⟨this,World.putObj_heap_same (Array.getElem?_eq_some_iff.1 hl3).1⟩
      rintro e a3 W3 hp
      cases e with
      | normal=>
        obtain ⟨hk3,hi3⟩:=hp
        obtain ⟨hr,hl4⟩:=fin none W3 hk3
        exact ⟨_,_,hr,.inl ⟨rfl,⟨hI.putObj hi3 (Nat.le_refl _) _,hl4⟩,(((hka.mono ω).trans (hup _ _)).trans (hk3.mono ω)).trans (hup _ _)⟩⟩
      | ret=>
        obtain ⟨hk3,hi3⟩:=hp
        obtain ⟨hr,hl4⟩:=fin (some .ret) W3 hk3
        exact ⟨_,_,hr,.inr ⟨rfl,.ret,(hIx _).putObj hi3 (Nat.le_refl _) _,hl4⟩⟩
      | exit id=>
        obtain ⟨hk3,hi3⟩:=hp
        obtain ⟨hr,hl4⟩:=fin (some (.exit id)) W3 hk3
        exact ⟨_,_,hr,.inr ⟨rfl,.exit id,(hIx _).putObj hi3 (Nat.le_refl _) _,hl4⟩⟩
      | goto t=>
        obtain ⟨hk3,hi3⟩:=hp
        obtain ⟨hr,hl4⟩:=fin (some (.goto t)) W3 hk3
        exact ⟨_,_,hr,.inr ⟨rfl,.goto t,(hIx _).putObj hi3 (Nat.le_refl _) _,hl4⟩⟩
      | panic ch=>exact hp.elim
      | outgrown=>exact hp.elim
    · -- behind the iterator
      rintro e W2 ⟨⟨v,rfl⟩,(⟨xs,hS,hi,hl⟩ | ⟨pre,hSp,c,hi,hl⟩)⟩
      · exact ⟨none,_,by have:=run_endLoop (P:=P) hl (by rw [hrec];simp);rw [hrec] at this;exact this,hdone xs _ hS (hI.putObj hi (Nat.le_refl _) _)⟩
      · exact ⟨some c,_,by have:=run_endLoop (P:=P) hl (by rw [hrec];simp);rw [hrec] at this;exact this,hstop c pre _ hSp ((hIx c).putObj hi (Nat.le_refl _) _)⟩
theorem FS {F:Fence} {n:Nat} {P:Program} {α:Type} {g:Operand} {p t:Tmp} {r:Nat} {ty:TypeId} {pos:String} {body:Code} {Q:Exit→Act→World→Prop} {a:Act} {w:World}
    (hro:F.round=none) (h1:1≤n) {gf:Nat} {lb:Array Value} (hg:a.eval g=.func (.func gf) #[] lb) (hFg:F.fn gf) (eg:∀ args w,(callFunc gf args).run P w=.ok (.enter gf args) w) (hp:p<a.tmps.size)
    {val:α→Value} {S Sp:List α→Prop} {N:Nat} {w0:World} {Cs:World→Prop} (hseq:SeqK F (n-1) P gf lb (fun x=>#[val x]) S Sp N w0 Cs) (hb0:Below w0.heap.size w0 w)
    (I:List α→World→Prop) (Ix:Code→List α→World→Prop) (hI:StabC w.heap.size I) (hIx:∀ c,StabC w.heap.size (Ix c)) (h0:I [] w) (hCs:∀ pre W,I pre W→Cs W)
    (hbody:∀ (l:Nat) (pre:List α) (x:α) (W:World),w.heap.size≤l→(∃ r,W.heap[l]? = some (.loop r))→I pre W→w.heap.size≤W.heap.size→pre.length<N→Sp (pre++[x])→body.wpIn (F.inRound l) (n-1-1) P (OO w.heap.size I Ix (pre++[x]) W) { tmps:=(a.tmps.setIfInBounds p (val x)).setIfInBounds t (val x),defers:=[] } W)
    (hdone:∀ (D:Nat) (xs:List α) (W:World),w.heap.size≤D→S xs→I xs W→W.heap[D]? = some (.deferred (some []))→Q .normal { a with defers:={ target:=.collected D,args:=#[] }::a.defers } W)
    (hstop:∀ (D:Nat) (c:Code) (pre:List α) (W:World),w.heap.size≤D→Sp pre→Ix c pre W→W.heap[D]? = some (.deferred (some []))→c.wpIn F n P Q { a with defers:={ target:=.collected D,args:=#[] }::a.defers } W) :
    (Code.rangeFunc g #[p] (Code.region r #[{ dst:=some t,op:=.assign (.tmp p),type:=ty,pos:=pos,after:=#[],guard:=none }] false) body).wpIn F n P Q a w:=by
  refine Kj hro h1 hg hFg eg hseq hb0 (fun _=>rfl) I Ix hI hIx h0 hCs (fun x a' _=>a'={ tmps:=(a.tmps.setIfInBounds p (val x)).setIfInBounds t (val x),defers:=[] }) (fun _ _ _ _ _ _ h _=>h) ?_ ?_ hdone hstop
  · intro l pre x W K hi hlt hK
    have hz:((#[p].zip #[val x]).foldl (fun t (q:Tmp×Value)=>t.setIfInBounds q.1 q.2) a.tmps)=a.tmps.setIfInBounds p (val x):=by simp
    have e:(a.tmps.setIfInBounds p (val x)).getD p undef=val x:=ID hp _ _
    have q:=hK { tmps:=(a.tmps.setIfInBounds p (val x)).setIfInBounds t (val x),defers:=[] } W (KeepUp.refl _ _) hi rfl
    rw [hz]
    generalize hT:a.tmps.setIfInBounds p (val x)=T at *
    generalize val x=v at *
    gi_wp2
    exact q
  · intro l pre x a' W hl hlr hi ha hlt hlen hsp
    subst ha
    exact hbody l pre x W hl hlr hi hlt hlen hsp
theorem Ji {F:Fence} {n:Nat} {P:Program} {α:Type} {g:Operand} {p t:Tmp} {r:Nat} {ty:TypeId} {pos:String} {body:Code} {Q:Exit→Act→World→Prop} {a:Act} {w:World}
    {l₀:Nat} {r₀:Loop} (hro:F.round=some l₀) (hl₀:w.heap[l₀]? = some (.loop r₀)) (h1:1≤n) {gf:Nat} {lb:Array Value} (hg:a.eval g=.func (.func gf) #[] lb) (hFg:F.fn gf) (eg:∀ args w,(callFunc gf args).run P w=.ok (.enter gf args) w) (hp:p<a.tmps.size)
    {val:α→Value} {S Sp:List α→Prop} {N:Nat} {w0:World} {Cs:World→Prop} (hseq:SeqK F (n-1) P gf lb (fun x=>#[val x]) S Sp N w0 Cs) (hb0:Below w0.heap.size w0 w)
    (I:List α→World→Prop) (Ix:Code→List α→World→Prop) (hI:StabC w.heap.size I) (hIx:∀ c,StabC w.heap.size (Ix c)) (h0:I [] w) (hCs:∀ pre W,I pre W→Cs W)
    (hbody:∀ (l:Nat) (pre:List α) (x:α) (W:World),w.heap.size≤l→(∃ r,W.heap[l]? = some (.loop r))→I pre W→w.heap.size≤W.heap.size→pre.length<N→Sp (pre++[x])→body.wpIn (F.inRound l) (n-1-1) P (OO w.heap.size I Ix (pre++[x]) W) { tmps:=(a.tmps.setIfInBounds p (val x)).setIfInBounds t (val x),defers:=[] } W)
    (hdone:∀ (xs:List α) (W:World),S xs→I xs W→Q .normal a W)
    (hstop:∀ (c:Code) (pre:List α) (W:World),Sp pre→Ix c pre W→c.wpIn F n P Q a W) :
    (Code.rangeFunc g #[p] (Code.region r #[{ dst:=some t,op:=.assign (.tmp p),type:=ty,pos:=pos,after:=#[],guard:=none }] false) body).wpIn F n P Q a w:=by
  refine JH hro hl₀ h1 hg hFg eg hseq hb0 (fun _=>rfl) I Ix hI hIx h0 hCs (fun x a' _=>a'={ tmps:=(a.tmps.setIfInBounds p (val x)).setIfInBounds t (val x),defers:=[] }) (fun _ _ _ _ _ _ h _=>h) ?_ ?_ hdone hstop
  · intro l pre x W K hi hlt hK
    have hz:((#[p].zip #[val x]).foldl (fun t (q:Tmp×Value)=>t.setIfInBounds q.1 q.2) a.tmps)=a.tmps.setIfInBounds p (val x):=by simp
    have e:(a.tmps.setIfInBounds p (val x)).getD p undef=val x:=ID hp _ _
    have q:=hK { tmps:=(a.tmps.setIfInBounds p (val x)).setIfInBounds t (val x),defers:=[] } W (KeepUp.refl _ _) hi rfl
    rw [hz]
    generalize hT:a.tmps.setIfInBounds p (val x)=T at *
    generalize val x=v at *
    gi_wp2
    exact q
  · intro l pre x a' W hl hlr hi ha hlt hlen hsp
    subst ha
    exact hbody l pre x W hl hlr hi hlt hlen hsp
end
section
attribute [local go_sem] Oper.semAt_some
def Fq (at_ m s:Nat):Nat:=if m=0 then 0 else (at_+m-1) / s+1-at_ / s
def Ci (at_ m s:Nat):List Nat:=List.range' (at_ / s) (Fq at_ m s)
theorem QL (at_ m s:Nat):(Ci at_ m s).length=Fq at_ m s:=by simp [Ci]
theorem Pv (at_ m s:Nat) {j:Nat} (h:j<Fq at_ m s):(Ci at_ m s).take (j+1)=(Ci at_ m s).take j++[at_ / s+j]:=by
  rw [List.take_add_one]
  have:(Ci at_ m s)[j]? = some (at_ / s+j):=by simp [Ci,h]
  rw [this];rfl
theorem QM (at_ m s j:Nat) (hs:s=8∨s=64) (hm:0<m):j<Fq at_ m s↔(at_ / s+j)*s<at_+m:=by
  unfold Fq
  rw [if_neg ω]
  rcases hs with rfl | rfl<;>omega
theorem Et (at_ m s k:Nat) (hs:s=8∨s=64):k∈Ci at_ m s↔inT at_ m s k=true:=by
  unfold Ci inT
  simp only [List.mem_range'_1,decide_eq_true_eq]
  unfold Fq
  by_cases h:m=0
  · rw [if_pos h];subst h;omega
  · rw [if_neg h]
    rcases hs with rfl | rfl<;>omega
theorem Xr {F:Fence} {p:Prop} (h:p):(∀ f,(none:Option FuncId)=some f→F.fn f)∧p:=⟨fun _ h=>(by cases h),h⟩
def CapT (Bn Ba Bs:Nat) (at_ m s:Nat) (w:World):Prop:=Blk w Bn 3 [ν (m:Int)]∧Blk w Ba 3 [ν (at_:Int)]∧Blk w Bs 3 [ν (s:Int)]
theorem CapT.mono {Bn Ba Bs at_ m s:Nat} {w w':World} (h:CapT Bn Ba Bs at_ m s w) (b:Below w.heap.size w w'):CapT Bn Ba Bs at_ m s w':=⟨h.1.mono b,h.2.1.mono b,h.2.2.mono b⟩
theorem CapT.cells {Bn Ba Bs at_ m s:Nat} {w:World} (h:CapT Bn Ba Bs at_ m s w):w.cell? ⟨Bn,0,none⟩=some (ν (m:Int))∧w.cell? ⟨Ba,0,none⟩=some (ν (at_:Int))∧w.cell? ⟨Bs,0,none⟩=some (ν (s:Int)):=
  ⟨h.1.cell (i:=0) (by simp),h.2.1.cell (i:=0) (by simp),h.2.2.cell (i:=0) (by simp)⟩
theorem Ie (n:Nat) (w0:World) (at_ m s:Nat) (hs:s=8∨s=64) (ha:at_≤2000000) (hm:m≤2000000) (Bn Ba Bs:Nat) (N:Nat) (hN:Fq at_ m s≤N) :
    SeqK Fence.wide n Tryz.prog 111 #[π Bn,π Ba,π Bs] (fun x:Nat=>#[ν (x:Int)]) (fun xs=>xs=Ci at_ m s) (fun q=>q <+: Ci at_ m s) N w0 (CapT Bn Ba Bs at_ m s):=by
  have hd:Fence.wide.depth=none:=rfl
  intro l J Jx W hW hJ hJx hC hY0 h0
  have hdd:∀ k:Nat,(Fence.wide.depth.isSome=true→1≤k):=fun k h=>by rw [hd] at h;cases h
  have hY:∀ (k:Nat) (pre:List Nat) (x:Nat) (W1:World),J pre W1→pre.length<N→pre++[x] <+: Ci at_ m s→YieldAt Fence.wide k Tryz.prog l #[ν (x:Int)] W1 fun e W'=>
    (e=.returned (.bool true)∧J (pre++[x]) W'∧KeepUp W.heap.size W1 W')∨(e=.returned (.bool false)∧Jx (pre++[x]) W'):=fun k pre x W1 a b c=>JL hd k (hY0 pre x W1 a b c)
  obtain ⟨c1,c2,c3⟩:=(hC _ _ h0).cells
  have HC:=hid hC;have HY:=hid hY;have H0:=hid h0
  clear hY hY0 h0 hW hJ hJx hC
  by_cases hm0:m=0
  · subst hm0
    have hz:Ci at_ 0 s=[]:=rfl
    rw [hz]
    clear hN hs
    refine callsIn_of_wp Tryz.func111 rfl trivial ?_ rfl
    simp only [Tryz.ntmps111,List.size_toArray,List.length_cons,List.length_nil,Nat.reduceAdd,Nat.reduceSub,Array.replicate_succ,Array.replicate_zero,List.push_toArray,List.append_toArray,List.nil_append,List.cons_append]
    gi_wp2
    (try simp only [Exit.inBlock,Exit.then]);refine bodyPost_ret (results_none rfl _ _ _) rfl ?_
    exact ⟨⟨_,rfl⟩,.inl ⟨_,rfl,H0.out⟩⟩
  · have hmi:¬ ((m:Int)=0):=ω
    have hiff:=fun j=>QM at_ m s j hs ω
    have hsn:=fun j hj=>Pv at_ m s (j:=j) hj
    have hlen:=QL at_ m s
    have hfull:(Ci at_ m s).take (Fq at_ m s)=Ci at_ m s:=List.take_of_length_le (by rw [hlen];exact Nat.le_refl _)
    have hq0:(at_:Int).tdiv (s:Int)=((at_ / s:Nat):Int):=rfl
    have hq1:at_ / s≤at_:=Nat.div_le_self _ _
    have hb:Fq at_ m s≤at_+m+1:=by
      unfold Fq;rw [if_neg hm0]
      rcases hs with rfl | rfl<;>omega
    have hs0:¬ ((s:Int)=0):=by rcases hs with rfl | rfl<;>simp
    have hs64:s≤64:=ω
    have e9:IntKind.i64.wrap ((at_:Int)+(m:Int))=(at_:Int)+m:=IntWalk.i64_in _ ω
    have HIF:=hid hiff;have HSN:=hid hsn;have HL:=hid hlen;have HF:=hid hfull
    clear hiff hsn hlen hfull
    generalize Ci at_ m s=TL at *
    generalize Fq at_ m s=T at *
    generalize at_ / s=q at *
    have hmb:((m:Int) == 0)=false:=by simpa using hmi
    have e0:IntKind.i64.wrap (q:Int)=(q:Int):=IntWalk.i64_in _ ω
    refine callsIn_of_wp Tryz.func111 rfl trivial ?_ rfl
    simp only [Tryz.ntmps111,List.size_toArray,List.length_cons,List.length_nil,Nat.reduceAdd,Nat.reduceSub,Array.replicate_succ,Array.replicate_zero,List.push_toArray,List.append_toArray,List.nil_append,List.cons_append]
    gi_wp2
    gi_loopw [5] (fun i wr=>∃ j:Nat,j≤T∧i=ν (q+j:Nat)∧J (TL.take j) wr) (fun i _=>q+T-(intOf i).toNat)
    case atStart=>exact ⟨0,ω,rfl,by simpa using H0.out⟩
    case round=>
      obtain ⟨j,hj,rfl,hJw⟩:=hrel
      obtain ⟨d1,d2,d3⟩:=(HC.out _ _ hJw).cells
      have hmul:(q+j)*s≤(q+j)*64:=Nat.mul_le_mul_left _ hs64
      have em:IntKind.i64.wrap (((q+j:Nat):Int)*(s:Int))=(((q+j)*s:Nat):Int):=by
        rw [IntWalk.i64_in _ (by rw [← Int.natCast_mul];omega)];rw [Int.natCast_mul]
      have hx:=HIF.out j
      by_cases hjc:j<T
      · have hlt:=hx.1 hjc
        obtain ⟨fn,tmps,assign,body,hy,hR⟩:=HY.out (n-1) (TL.take j) (q+j) wr hJw (by rw [List.length_take,HL.out];omega) (by rw [← HSN.out j hjc];exact List.take_prefix _ _)
        rw [← HSN.out j hjc] at hR
        have HPr:Hid (TL.take (j+1) <+: TL):=List.take_prefix _ _
        generalize hQ:(q+j)*s=Q at *
        generalize hk:q+j=k at *
        have HK:=hid hk
        have il:(Q:Int)<(at_:Int)+m:=ω
        have e3:IntKind.i64.wrap ((k:Int)+1)=(k:Int)+1:=IntWalk.i64_in _ ω
        have HR:=hid hR
        clear hR hJw hx hk
        gi_wp2
        refine HR.out.mono ?_
        rintro e W3 (⟨rfl,hJ3,hk3⟩ | ⟨rfl,hJx3⟩)
        · have HJ3:=hid hJ3
          clear hJ3 hk3
          gi_wp2
          go_roundw
          case rel=>exact ⟨j+1,ω,by have:=HK.out;go_num,HJ3.out⟩
          case measure=>have:=HK.out;simp [intOf];omega
        · have HJX:=hid hJx3
          clear hJx3
          gi_wp2
          go_end0
          exact ⟨⟨_,rfl⟩,.inr ⟨_,HPr.out,HJX.out⟩⟩
      · have hge:¬ ((q+j)*s<at_+m):=fun h=>hjc (hx.2 h)
        obtain rfl:j=T:=ω
        have HJ:=hid hJw
        generalize hQ:(q+j)*s=Q at *
        generalize hk:q+j=k at *
        have il:¬ ((Q:Int)<(at_:Int)+m):=ω
        clear hJw hx
        gi_wp2
        refine Xr ?_
        gi_wp2
        go_end0
        exact ⟨⟨_,rfl⟩,.inl ⟨_,rfl,by have:=HJ.out;rwa [HF.out] at this⟩⟩
theorem Id (at_ m s:Nat) (w:World):Calls Tryz.prog 102 #[ν (at_:Int),ν (m:Int),ν (s:Int)] w fun e w'=>
    e=.returned (.func (.func 111) #[] #[π (w.heap.size+1),π w.heap.size,π (w.heap.size+1+1)])∧CapT (w.heap.size+1) w.heap.size (w.heap.size+1+1) at_ m s w'∧Below w.heap.size w w'∧w'.heap.size=w.heap.size+3:=by
  have K1:=hid (AP (W:=w) rfl 3 [ν (at_:Int)])
  have K2:=hid (AP (W:=w.alloc (.cells #[ν (at_:Int)] 3)) (n:=w.heap.size+1) (by simp) 3 [ν (m:Int)])
  have K3:=hid (AP (W:=(w.alloc (.cells #[ν (at_:Int)] 3)).alloc (.cells #[ν (m:Int)] 3)) (n:=w.heap.size+1+1) (by simp) 3 [ν (s:Int)])
  go_enter Tryz.func102,Tryz.ntmps102
  go_wp2
  go_ret
  exact ⟨rfl,⟨K2.out.mono (CQ _ _),(K1.out.mono (CQ _ _)).mono (CQ _ _),K3.out⟩,AT (AT (CQ _ _) _) _,by simp⟩
theorem NZ (k:Nat) (hk:k≤100000) (w:World):Calls Tryz.prog 104 #[ν (k:Int)] w fun e w'=>
    e=.returned (.func (.func 111) #[] #[π (w.heap.size+1),π w.heap.size,π (w.heap.size+1+1)])∧CapT (w.heap.size+1) w.heap.size (w.heap.size+1+1) (64*k) 64 8 w'∧Below w.heap.size w w'∧w'.heap.size=w.heap.size+3:=by
  have e1:IntKind.i64.wrap ((k:Int)*64)=((64*k:Nat):Int):=by rw [IntWalk.i64_in _ ω];omega
  have HT:=hid (Id (64*k) 64 8 w)
  generalize 64*k=q at *
  go_enter Tryz.func104,Tryz.ntmps104
  go_wp2_with (go_at_call 102;refine HT.out.mono ?_;rintro e w1 ⟨rfl,k1,b1,s1⟩;have K1:=hid k1;have B1:=hid b1;have S1:=hid s1;clear k1 b1 s1)
  go_ret
  exact ⟨rfl,K1.out,B1.out,S1.out⟩
end
section
open Go.RowKit Go.Shelf
attribute [local go_sem] Oper.semAt_some
def LN (b:Bool) (A:List Bool) (pre:List Nat):List Bool:=pre.foldl (fun A k=>A.set k b) A
theorem SD (b:Bool) (A:List Bool) (pre:List Nat) (x:Nat):LN b A (pre++[x])=(LN b A pre).set x b:=by simp [LN,List.foldl_append]
theorem LP (b:Bool):∀ (pre:List Nat) (A:List Bool),(LN b A pre).length=A.length
  | [],_=>rfl
  | x::r,A=>by
    show (LN b (A.set x b) r).length=_
    rw [LP b r,List.length_set]
theorem Pm (b:Bool):∀ (pre:List Nat) (A:List Bool) (k:Nat),k<A.length→(LN b A pre).getD k false=if k∈pre then b else A.getD k false
  | [],A,k,_=>by simp [LN]
  | x::r,A,k,hk=>by
    show (LN b (A.set x b) r).getD k false=_
    rw [Pm b r _ k (by simpa using hk)]
    by_cases h:k∈r
    · simp [h]
    · rw [if_neg h]
      by_cases e:k=x
      · subst e;simp [hk]
      · rw [if_neg (by simp [e,h])]
        simp only [List.getD_eq_getElem?_getD,List.getElem?_set]
        rw [if_neg (fun q=>e q.symm)]
theorem Turns.of_belowB {B:Nat} {X Y:World} (h:Below B X Y):Turns (fun k=>B≤k) X Y:=⟨h.os,h.tape,h.output,h.size,fun k _ hn=>h.block k ω⟩
theorem MemP.up {B:Nat} {X Y:World} {g v d p:Nat} {M:MemM} (h:MemP X g v d p M) (b:Below B X Y) (hg:g<B) (hv:v<B) (hd:d<B) (hp:p<B):MemP Y g v d p M:=h.turns (Turns.of_belowB b) ω ω ω ω
theorem Turns.up {Z:Nat→Prop} {B:Nat} {w X Y:World} (h:Turns Z w X) (b:Below B X Y) (hB:w.heap.size≤B):Turns Z w Y:=h.trans' (Turns.of_belowB b) (fun k hk q=>ω)
theorem MemP.setA {W W5:World} {g v d p:Nat} {V D:List UInt8} {A A':List Bool} (h:MemP W g v d p ⟨V,D,A⟩) (q:PendP W5 p A') (hl:A'.length=A.length) (t:Turns (fun k=>k=p) W W5):MemP W5 g v d p ⟨V,D,A'⟩:=by
  obtain ⟨_,h1,h2,h3,h4,h5,h6,h7,h8,h9⟩:=Ep h
  obtain ⟨⟨l1,l2,l3,l4,l5⟩,hne,hg,hv,hd,hp⟩:=h
  exact ⟨⟨l1,by show A'.length*8=V.length;rw [hl];exact l2,l3,l4,l5⟩,hne,t.blk hg (fun e=>h3 e.symm),t.blk hv (fun e=>h4 e.symm),t.blk hd (fun e=>h5 e.symm),q⟩
theorem Wc:(Tryz.prog.info? 5).map (·.size)=some 1:=κ
def JO (g v d p:Nat) (M:MemM) (at_:Int) (b:List UInt8) (w:World) (e:Ending) (w':World):Prop:=
  if inM M at_ b.length=true then e=.returned (ν 0)∧MemP w' g v d p (CM M at_.toNat b)∧Turns (fun k=>k=v∨k=p) w w' else e=.returned (ν 1)∧Below w.heap.size w w'
theorem SF {w:World} {g v d p:Nat} {M:MemM} (h:MemP w g v d p M) (at_:Int) (ha:-9223372036854775808≤at_∧at_≤9223372036854775807) (a:Option Addr) (c:Nat) (b:List UInt8) (hr:BB w a c b) :
    Calls Tryz.prog 77 #[π g,ν at_,.slice a b.length c] w (JO g v d p M at_ b w):=by
  have hbl:=JB hr
  have hd:Fence.wide.depth=none:=rfl
  obtain ⟨w1,hw1⟩:∃ w1,w1=w.alloc (.cells #[π g] 50):=⟨_,rfl⟩
  have b1:Below w.heap.size w w1:=by rw [hw1];exact CQ w _
  have k1:Blk w1 w.heap.size 50 [π g]:=by rw [hw1];exact AP rfl _ _
  have s1:w1.heap.size=w.heap.size+1:=by rw [hw1];simp
  have m1:=h.mono b1
  have c1:w1.cell? ⟨w.heap.size,0,none⟩=some (π g):=k1.cell (i:=0) (by simp)
  obtain ⟨d0,d1,d2⟩:=m1.cells
  have HW:=Jh m1 at_ b.length ha ω
  by_cases hi:inM M at_ b.length=true
  · have hE:JO g v d p M at_ b w=fun e w'=>e=.returned (ν 0)∧MemP w' g v d p (CM M at_.toNat b)∧Turns (fun k=>k=v∨k=p) w w':=by
      funext e w';unfold JO;rw [if_pos hi]
    rw [hE]
    rw [hi] at HW
    clear hE
    obtain ⟨a0,n0,rfl,hn0,hl⟩:=ED hi
    obtain rfl:b.length=n0:=ω
    rw [show ((a0:Int)).toNat=a0 from rfl]
    obtain ⟨av,ag1,ag2,ap1,ap2,ap3,gl,vl,dl,pl⟩:=Ep h
    obtain ⟨hok,_,q3,q4,q5,q6⟩:=m1
    have hVl:M.V.length≤1048576:=hok.2.2.2.2
    have hAl:M.A.length*8=M.V.length:=hok.2.1
    have rb:=hr.mono b1
    obtain ⟨dp,hdp⟩:∃ dp,(if M.V.length=a0 then (some ⟨v,0,none⟩:Option Addr) else some ⟨v,a0,none⟩)=dp:=⟨_,rfl⟩
    have hdp2:0<min b.length (M.V.length-a0)→dp=some ⟨v,a0,none⟩:=fun q=>by rw [← hdp,if_neg ω]
    have hmin:min b.length (M.V.length-a0)=b.length:=ω
    have hfit:a0+min b.length (M.V.length-a0)≤(M.V.map Ap).length:=by rw [hmin,List.length_map];exact hl
    have f5:((a0:Int)≤(M.V.length:Int))=True:=eq_true ω
    have f6:(a0≤M.V.length)=True:=eq_true ω
    have hcp:∀ w3,Blk w3 v 5 (splice (M.V.map Ap) a0 ((b.map Ap).take (min b.length (M.V.length-a0))))→w1.grownBy w3 (some v)→MemP w3 g v d p ⟨splice M.V a0 b,M.D,M.A⟩∧Turns (fun k=>k=v) w w3∧Blk w3 w.heap.size 50 [π g]:=by
      intro w3 hb hg
      have t:Turns (fun k=>k=v) w1 w3:=Turns.of_grown hg rfl
      rw [hmin,List.take_of_length_le (by simp),← Lw] at hb
      have hsl:(splice M.V a0 b).length=M.V.length:=length_splice _ _ _ hl
      refine ⟨⟨?_,av,?_,hb,t.blk q5 av.symm,t.pend q6 ap2⟩,(Turns.of_below b1).trans t,t.blk k1 ω⟩
      · obtain ⟨l1,l2,l3,l4,l5⟩:=hok
        exact ⟨l1.trans hsl.symm,l2.trans hsl.symm,by rw [hsl];exact l3,by rw [hsl];exact l4,by rw [hsl];exact l5⟩
      · have:=t.blk q3 ag1
        rw [← hsl] at this;exact this
    have HCP:=hid hcp;have HW:=hid HW;have HF:=hid hfit;have HD2:=hid hdp2;have Q4:=hid q4;have RB:=hid rb
    have ht:=fun X=>Id a0 b.length 8 X
    simp only [show ((8:Nat):Int)=8 from rfl] at ht
    have HT:=hid ht;have HW1:=hid hw1
    clear hcp hfit hdp2 q3 q4 q5 q6 rb hi hr k1 ht hw1
    refine (callsIn_wide (n:=5)).1 ?_
    refine callsIn_of_wp_marks Tryz.func77 rfl trivial ?_ rfl
    simp only [Tryz.ntmps77,List.size_toArray,List.length_cons,List.length_nil,Nat.reduceAdd,Nat.reduceSub,Array.replicate_succ,Array.replicate_zero,List.push_toArray,List.append_toArray,List.nil_append,List.cons_append]
    gi_wp2_with (first
      | ((try refine ⟨trivial,?_⟩);gi_at_call 30;rw [← HW1.out];refine (callsIn_wide.2 HW.out).mono ?_;rintro e w2 ⟨rfl,rfl⟩)
      | ((with_reducible refine SI rfl _ _ rfl υ60 Wc rfl rfl HD2.out Q4.out RB.out (DP b) HF.out ?_);intro w3 k3 g3;have C3:=hid (HCP.out w3 k3 g3);clear k3 g3)
      | ((try refine ⟨trivial,?_⟩);gi_at_call 102;refine (callsIn_wide.2 (HT.out _)).mono ?_;rintro e w4 ⟨rfl,k4,b4,s4⟩;have K4:=hid k4;have B4:=hid b4;have S4:=hid s4;clear k4 b4 s4))
    obtain ⟨m3,t3,x3⟩:=C3.out
    have l3:=t3.size
    have l4:=B4.out.size
    have hI:StabC w4.heap.size (fun (pre:List Nat) W=>Blk W w.heap.size 50 [π g]∧MemP W g v d p ⟨splice M.V a0 b,M.D,LN false M.A pre⟩∧CapT (w3.heap.size+1) w3.heap.size (w3.heap.size+1+1) a0 b.length 8 W∧Turns (fun k=>k=v∨k=p) w W):=by
      rintro pre X Y ⟨i1,i2,i3,i4⟩ bb
      have h4:=S4.out
      exact ⟨(bb.block _ ω).trans i1,i2.up bb ω ω ω ω,⟨(bb.block _ ω).trans i3.1,(bb.block _ ω).trans i3.2.1,(bb.block _ ω).trans i3.2.2⟩,i4.up bb ω⟩
    have hx4:=x3.mono B4.out
    have hm4:=m3.mono B4.out
    have ht4:Turns (fun k=>k=v∨k=p) w w4:=(t3.mono (fun _ q=>.inl q)).trans (Turns.of_below B4.out)
    refine FS rfl ω (gf:=111) rfl trivial (enters_of Tryz.func111 κ rfl) (by simp) (val:=fun x:Nat=>ν (x:Int))
      (Ie (5-1) w4 a0 b.length 8 (.inl rfl) ω ω (w3.heap.size+1) w3.heap.size (w3.heap.size+1+1) _ (Nat.le_refl _)) (Below.refl _ _)
      _ (fun _ _ _=>False) hI (fun _ _ _ _ q _=>q) ⟨hx4,hm4,K4.out,ht4⟩ (fun _ _ q=>q.2.2.1) ?body ?done ?stop
    case body=>
      rintro l pre x W _ _ ⟨i1,i2,i3,i4⟩ hlt _ hsp
      have hxm:x∈Ci a0 b.length 8:=hsp.subset (by simp)
      have hxi:=(Et a0 b.length 8 x (.inl rfl)).1 hxm
      have hxl:x<M.A.length:=by have:=of_decide_eq_true hxi;omega
      have y0:W.cell? ⟨w.heap.size,0,none⟩=some (π g):=i1.cell (i:=0) (by simp)
      obtain ⟨_,_,y2⟩:=i2.cells
      have I1:=hid i1;have I2:=hid i2;have I3:=hid i3;have I4:=hid i4
      clear i1 i2 i3 i4 hsp hxm hxi
      simp only [List.setIfInBounds_toArray,List.set_cons_succ,List.set_cons_zero]
      gi_wp2_with (first | (gi_at_delete;refine UG rfl _ _ rfl υ84 rfl rfl (by rw [LP];exact hxl) ω I2.out.2.2.2.2.2 ?_;intro w5 p5 g5;have P5:=hid p5;have G5:=hid g5;clear p5 g5))
      have t5:Turns (fun k=>k=p) W w5:=Turns.of_grown G5.out rfl
      refine ⟨KeepUp.of_grown G5.out ω,t5.blk I1.out ω,?_,⟨t5.blk I3.out.1 ω,t5.blk I3.out.2.1 ω,t5.blk I3.out.2.2 ω⟩,I4.out.trans (t5.mono (fun _ q=>.inr q))⟩
      rw [SD]
      exact I2.out.setA P5.out (by simp) t5
    case done=>
      rintro D xs W hD rfl ⟨i1,i2,i3,i4⟩ hk
      have hst:(⟨splice M.V a0 b,M.D,LN false M.A (Ci a0 b.length 8)⟩:MemM)=CM M a0 b:=by
        unfold CM
        rw [JF (L:=LN false M.A (Ci a0 b.length 8)) (LP _ _ _) (fun k hk=>?_)]
        rw [Pm _ _ _ _ hk]
        by_cases q:inT a0 b.length 8 k=true
        · rw [if_pos ((Et _ _ _ _ (.inl rfl)).2 q),q];simp
        · rw [if_neg (fun z=>q ((Et _ _ _ _ (.inl rfl)).1 z))]
          rw [show inT a0 b.length 8 k=false by simpa using q];simp
      rw [hst] at i2
      have I2:=hid i2;have I4:=hid i4
      clear i1 i2 i3 i4 hst
      gi_wp2
      refine ⟨by simp,.inl ⟨_,_,rfl,run_takeDeferred hk,?_⟩⟩
      have hb:∀ o,Below w4.heap.size W (W.putObj D o):=fun o=>BY (Below.refl _ _) o hD
      exact ⟨_,results_tmp rfl _ _ _,rfl,I2.out.up (hb _) ω ω ω ω,I4.out.up (hb _) ω⟩
    case stop=>
      rintro D c pre W _ _ h _
      exact h.elim
  · have hE:JO g v d p M at_ b w=fun e w'=>e=.returned (ν 1)∧Below w.heap.size w w':=by
      funext e w';unfold JO;rw [if_neg hi]
    rw [hE]
    rw [show inM M at_ b.length=false by simpa using hi] at HW
    have HW:=hid HW
    clear hE hi h m1 hr
    go_enter Tryz.func77,Tryz.ntmps77
    go_wp2_with (first | (rw [← hw1];go_at_call 30;refine HW.out.mono ?_;rintro e w2 ⟨rfl,rfl⟩))
    go_ret
    exact ⟨rfl,by rw [← hw1];exact b1⟩
end
section
open Go.RowKit Go.Shelf
attribute [local go_sem] Oper.semAt_some
theorem SeqK.inRound {α:Type} {F:Fence} {n:Nat} {P:Program} {g:Nat} {lb:Array Value} {encs:α→Array Value} {S Sp:List α→Prop} {N:Nat} {w0:World} {Cs:World→Prop} (l:Nat) (h:SeqK F n P g lb encs S Sp N w0 Cs):SeqK (F.inRound l) n P g lb encs S Sp N w0 Cs:=h
theorem KeepUp.up {B Bi:Nat} {W0 X Y:World} (h:KeepUp B W0 X) (b:Below Bi X Y) (hB:W0.heap.size≤Bi):KeepUp B W0 Y:=⟨Nat.le_trans h.1 b.size,fun k h1 h2=>(b.block k ω).trans (h.2 k h1 h2)⟩
theorem CapT.up {Bn Ba Bs at_ m s B:Nat} {X Y:World} (h:CapT Bn Ba Bs at_ m s X) (b:Below B X Y) (h1:Bn<B) (h2:Ba<B) (h3:Bs<B):CapT Bn Ba Bs at_ m s Y:=⟨(b.block _ h1).trans h.1,(b.block _ h2).trans h.2.1,(b.block _ h3).trans h.2.2⟩
theorem CapT.turns {Bn Ba Bs at_ m s:Nat} {Z:Nat→Prop} {X Y:World} (h:CapT Bn Ba Bs at_ m s X) (t:Turns Z X Y) (h1:¬ Z Bn) (h2:¬ Z Ba) (h3:¬ Z Bs):CapT Bn Ba Bs at_ m s Y:=⟨t.blk h.1 h1,t.blk h.2.1 h2,t.blk h.2.2 h3⟩
theorem OC (k line:Nat):k∈Ci (64*line) 64 8↔k / 8=line:=by
  rw [Et _ _ _ _ (.inl rfl)]
  unfold inT
  rw [decide_eq_true_eq]
  omega
def Xu (g v d p:Nat) (M:MemM) (line:Int) (w:World) (e:Ending) (w':World):Prop:=
  if 0≤line∧line<(M.V.length / 64:Nat) then e=.returned (ν 0)∧MemP w' g v d p (Tv M line.toNat)∧Turns (fun k=>k=d∨k=p) w w' else e=.returned (ν 1)∧Below w.heap.size w w'
attribute [local go_sem] Oper.semAt_some
def flT (M:MemM) (f:Nat→Bool):List Bool:=Ca M.A.length fun k=>M.A.getD k false||(f k&&BC M.V M.D k)
theorem FM (M:MemM) (f:Nat→Bool):(flT M f).length=M.A.length:=Bv _ _
theorem On (M:MemM):flT M (fun _=>false)=M.A:=by
  unfold flT
  rw [Bf (g:=fun k=>M.A.getD k false) (fun k _=>by simp),Gx]
theorem CZ {M:MemM} {f f':Nat→Bool} (h:∀ k,k<M.A.length→f k=f' k):flT M f=flT M f':=Bf fun k hk=>by rw [h k hk]
theorem Rc (M:MemM) (f:Nat→Bool) (x:Nat) (hd:BC M.V M.D x=true):(flT M f).set x true=flT M fun k=>f k||k == x:=by
  unfold flT
  rw [Ic]
  refine Bf fun k hk=>?_
  by_cases e:k=x
  · subst e;rw [if_pos rfl,hd];simp
  · rw [if_neg e];show _=(_||(f k||k == x)&&_);rw [show (k == x)=false from by simpa using e,Bool.or_false]
theorem Rb (M:MemM) (f:Nat→Bool) (x:Nat) (hd:BC M.V M.D x=false):flT M f=flT M fun k=>f k||k == x:=by
  unfold flT
  refine Bf fun k hk=>?_
  by_cases e:k=x
  · subst e;rw [hd];simp
  · show _=(_||(f k||k == x)&&_);rw [show (k == x)=false from by simpa using e,Bool.or_false]
theorem Qc (M:MemM) (at_ n:Nat):En M at_ n=⟨M.V,M.D,flT M fun k=>decide (k / 8∈Ci at_ n 64)⟩:=by
  unfold En flT
  rw [Bf fun k hk=>?_]
  have:inT at_ n 64 (k / 8)=decide (k / 8∈Ci at_ n 64):=by
    rw [Bool.eq_iff_iff,decide_eq_true_eq];exact (Et _ _ _ _ (.inr rfl)).symm
  rw [this]
def JM (g v d p:Nat) (M:MemM) (at_ n:Int) (w:World) (e:Ending) (w':World):Prop:=
  if inM M at_ n=true then e=.returned (ν 0)∧MemP w' g v d p (En M at_.toNat n.toNat)∧Turns (fun k=>k=p) w w' else e=.returned (ν 1)∧Below w.heap.size w w'
theorem Sa {w:World} {g v d p:Nat} {M:MemM} (h:MemP w g v d p M) (at_ n:Int) (ha:-9223372036854775808≤at_∧at_≤9223372036854775807) (hn:-9223372036854775808≤n∧n≤9223372036854775807) :
    Calls Tryz.prog 79 #[π g,ν at_,ν n] w (JM g v d p M at_ n w):=by
  have hd:Fence.wide.depth=none:=rfl
  obtain ⟨w1,hw1⟩:∃ w1,w1=w.alloc (.cells #[π g] 50):=⟨_,rfl⟩
  have b1:Below w.heap.size w w1:=by rw [hw1];exact CQ w _
  have k1:Blk w1 w.heap.size 50 [π g]:=by rw [hw1];exact AP rfl _ _
  have s1:w1.heap.size=w.heap.size+1:=by rw [hw1];simp
  have m1:=h.mono b1
  have c1:w1.cell? ⟨w.heap.size,0,none⟩=some (π g):=k1.cell (i:=0) (by simp)
  have HW:=Jh m1 at_ n ha hn
  have HW1:=hid hw1
  by_cases hi:inM M at_ n=true
  · have hE:JM g v d p M at_ n w=fun e w'=>e=.returned (ν 0)∧MemP w' g v d p (En M at_.toNat n.toNat)∧Turns (fun k=>k=p) w w':=by
      funext e w';unfold JM;rw [if_pos hi]
    rw [hE]
    rw [hi] at HW
    clear hE
    obtain ⟨a0,n0,rfl,rfl,hl⟩:=ED hi
    rw [show ((a0:Int)).toNat=a0 from rfl,show ((n0:Int)).toNat=n0 from rfl]
    obtain ⟨av,ag1,ag2,ap1,ap2,ap3,gl,vl,dl,pl⟩:=Ep h
    have hVl:M.V.length≤1048576:=m1.1.2.2.2.2
    have hAl:M.A.length*8=M.V.length:=m1.1.2.1
    have hV64:M.V.length % 64=0:=m1.1.2.2.1
    have ht:=fun X=>Id a0 n0 64 X
    simp only [show ((64:Nat):Int)=64 from rfl] at ht
    have HT:=hid ht
    have HWI:=hid HW
    have M1:=hid m1;have K1:=hid k1;have S1:=hid s1
    clear HW ht m1 k1 s1 hw1 hi
    refine (callsIn_wide (n:=8)).1 ?_
    refine callsIn_of_wp_marks Tryz.func79 rfl trivial ?_ rfl
    simp only [Tryz.ntmps79,List.size_toArray,List.length_cons,List.length_nil,Nat.reduceAdd,Nat.reduceSub,Array.replicate_succ,Array.replicate_zero,List.push_toArray,List.append_toArray,List.nil_append,List.cons_append]
    gi_wp2_with (first
      | ((try refine ⟨trivial,?_⟩);gi_at_call 30;rw [← HW1.out];refine (callsIn_wide.2 HWI.out).mono ?_;rintro e w2 ⟨rfl,rfl⟩)
      | ((try refine ⟨trivial,?_⟩);gi_at_call 102;refine (callsIn_wide.2 (HT.out _)).mono ?_;rintro e w4 ⟨rfl,k4,b4,s4⟩;have K4:=hid k4;have B4:=hid b4;have S4:=hid s4;clear k4 b4 s4))
    have s1:=S1.out
    have l4:=B4.out.size
    have h4:=S4.out
    have hI:StabC w4.heap.size (fun (pre:List Nat) W=>Blk W w.heap.size 50 [π g]∧MemP W g v d p ⟨M.V,M.D,flT M fun k=>decide (k / 8∈pre)⟩∧CapT (w1.heap.size+1) w1.heap.size (w1.heap.size+1+1) a0 n0 64 W∧Turns (fun k=>k=p) w W):=by
      rintro pre X Y ⟨i1,i2,i3,i4⟩ bb
      exact ⟨(bb.block _ ω).trans i1,i2.up bb ω ω ω ω,i3.up bb ω ω ω,i4.up bb ω⟩
    have hx4:=K1.out.mono B4.out
    have hm4:=M1.out.mono B4.out
    have ht4:Turns (fun k=>k=p) w w4:=(Turns.of_below b1).trans (Turns.of_below B4.out)
    have hz:(⟨M.V,M.D,flT M fun k=>decide (k / 8∈([]:List Nat))⟩:MemM)=M:=by
      rw [CZ (f':=fun _=>false) (fun k _=>by simp),On]
    refine FS rfl ω (gf:=111) rfl trivial (enters_of Tryz.func111 κ rfl) (by simp) (val:=fun x:Nat=>ν (x:Int))
      (Ie (8-1) w4 a0 n0 64 (.inr rfl) ω ω (w1.heap.size+1) w1.heap.size (w1.heap.size+1+1) _ (Nat.le_refl _)) (Below.refl _ _)
      _ (fun _ _ _=>False) hI (fun _ _ _ _ q _=>q) ⟨hx4,by rw [hz];exact hm4,K4.out,ht4⟩ (fun _ _ q=>q.2.2.1) ?body ?done ?stop
    case body=>
      rintro l pre ln W hlb hlr ⟨i1,i2,i3,i4⟩ hlt _ hsp
      have hlm:ln∈Ci a0 n0 64:=hsp.subset (by simp)
      have hln:=of_decide_eq_true ((Et a0 n0 64 ln (.inr rfl)).1 hlm)
      have hle:ln≤16384:=ω
      have hlA:∀ k,k / 8=ln→k<M.A.length:=fun k hk=>ω
      have HLA:=hid hlA
      have HCO:=hid (fun X=>NZ ln ω X)
      have I1:=hid i1;have I2:=hid i2;have I3:=hid i3;have I4:=hid i4;have HLR:=hid hlr
      clear i1 i2 i3 i4 hsp hlm hln hlr hlA s1 h4
      simp only [List.setIfInBounds_toArray,List.set_cons_succ,List.set_cons_zero]
      gi_wp2_with (first
        | ((try refine ⟨trivial,?_⟩);gi_at_call 104;refine (CallsIn.inRound l (callsIn_wide.2 (HCO.out _))).mono ?_;rintro e w5 ⟨rfl,k5,b5,s5⟩;have K5:=hid k5;have B5:=hid b5;have S5:=hid s5;clear k5 b5 s5))
      obtain ⟨r,hr⟩:=HLR.out
      have hlW:l<W.heap.size:=(Array.getElem?_eq_some_iff.1 hr).1
      have hr5:w5.heap[l]? = some (.loop r):=(B5.out.block l hlW).trans hr
      have l5:=B5.out.size
      have h5:=S5.out
      have hI5:StabC w5.heap.size (fun (q:List Nat) Z=>Blk Z w.heap.size 50 [π g]∧MemP Z g v d p ⟨M.V,M.D,flT M fun k=>decide (k / 8∈pre)||decide (k∈q)⟩∧CapT (w1.heap.size+1) w1.heap.size (w1.heap.size+1+1) a0 n0 64 Z∧CapT (W.heap.size+1) W.heap.size (W.heap.size+1+1) (64*ln) 64 8 Z∧Turns (fun k=>k=p) w Z∧KeepUp w4.heap.size W Z):=by
        have s1:=S1.out
        have h4:=S4.out
        rintro q X Y ⟨j1,j2,j3,j3',j4,j5⟩ bb
        exact ⟨(bb.block _ ω).trans j1,j2.up bb ω ω ω ω,j3.up bb ω ω ω,j3'.up bb ω ω ω,j4.up bb ω,j5.up bb ω⟩
      have hz5:(⟨M.V,M.D,flT M fun k=>decide (k / 8∈pre)||decide (k∈([]:List Nat))⟩:MemM)=⟨M.V,M.D,flT M fun k=>decide (k / 8∈pre)⟩:=by
        rw [CZ (f':=fun k=>decide (k / 8∈pre)) (fun k _=>by simp)]
      refine Ji (l₀:=l) (r₀:=r) rfl hr5 ω (gf:=111) rfl trivial (enters_of Tryz.func111 κ rfl) (by simp) (val:=fun x:Nat=>ν (x:Int))
        (SeqK.inRound l (Ie (8-1-1-1) w5 (64*ln) 64 8 (.inl rfl) ω ω (W.heap.size+1) W.heap.size (W.heap.size+1+1) _ (Nat.le_refl _))) (Below.refl _ _)
        _ (fun _ _ _=>False) hI5 (fun _ _ _ _ q _=>q)
        ⟨I1.out.mono B5.out,by rw [hz5];exact I2.out.mono B5.out,I3.out.mono B5.out,K5.out,I4.out.trans (Turns.of_below B5.out),(KeepUp.refl _ _).trans (KeepUp.of_below B5.out)⟩ (fun _ _ q=>q.2.2.2.1) ?body2 ?done2 ?stop2
      case body2=>
        rintro l2 q x Z _ _ ⟨j1,j2,j3,j3',j4,j5⟩ hlt2 _ hsp2
        have hxm:x∈Ci (64*ln) 64 8:=hsp2.subset (by simp)
        have hxl:x<M.A.length:=HLA.out x ((OC x ln).1 hxm)
        have y0:Z.cell? ⟨w.heap.size,0,none⟩=some (π g):=j1.cell (i:=0) (by simp)
        have HD:=hid (Mq j2 x (by show x<(flT M _).length;rw [FM];exact hxl))
        have J1:=hid j1;have J2:=hid j2;have J3:=hid j3;have J3':=hid j3';have J4:=hid j4;have J5:=hid j5
        clear j1 j2 j3 j3' j4 j5 hsp2 hxm h5
        simp only [List.setIfInBounds_toArray,List.set_cons_succ,List.set_cons_zero]
        by_cases hdx:BC M.V M.D x=true
        · have HDX:=hid hdx
          have hD2:=HD.out
          rw [show BC (⟨M.V,M.D,flT M fun k=>decide (k / 8∈pre)||decide (k∈q)⟩:MemM).V (⟨M.V,M.D,flT M fun k=>decide (k / 8∈pre)||decide (k∈q)⟩:MemM).D x=true from hdx] at hD2
          have HD2:=hid hD2
          clear hD2 HD hdx
          gi_wp2_with (first
            | ((try refine ⟨trivial,?_⟩);gi_at_call 58;refine (CallsIn.inRound l2 (CallsIn.inRound l (callsIn_wide.2 HD2.out))).mono ?_;rintro e w7 ⟨rfl,b7⟩;have x0:w7.cell? ⟨w.heap.size,0,none⟩=some (.pointer (some ⟨g,0,none⟩)):=(J1.out.mono b7).cell (i:=0) (by simp);have M7:=hid (J2.out.mono b7);have x2:=M7.out.cells.2.2;have B7:=hid b7;clear b7)
            | (gi_at_mapUpdate;refine UH rfl _ _ _ rfl υ84 rfl rfl rfl (by rw [FM];exact hxl) ω (by rw [FM];omega) M7.out.2.2.2.2.2 ?_;intro w8 p8 g8;have P8:=hid p8;have G8:=hid g8;clear p8 g8))
          have t8:Turns (fun k=>k=p) w7 w8:=Turns.of_grown G8.out rfl
          have t78:Turns (fun k=>k=p) Z w8:=(Turns.of_below B7.out).trans t8
          have s1:=S1.out;have h4:=S4.out;have h5:=S5.out
          refine ⟨t78.keepUp ω,t78.blk J1.out ω,?_,J3.out.turns t78 ω ω ω,J3'.out.turns t78 ω ω ω,J4.out.trans t78,J5.out.trans ((t78.keepUp ω))⟩
          have:=M7.out.setA P8.out (by simp) t8
          rw [Rc _ _ _ HDX.out] at this
          rw [CZ (f':=fun k=>(decide (k / 8∈pre)||decide (k∈q))||k == x) (fun k _=>by rw [Bool.eq_iff_iff];simp [or_assoc])]
          exact this
        · have hdx':BC M.V M.D x=false:=by simpa using hdx
          have HDX:=hid hdx'
          have hD2:=HD.out
          rw [show BC (⟨M.V,M.D,flT M fun k=>decide (k / 8∈pre)||decide (k∈q)⟩:MemM).V (⟨M.V,M.D,flT M fun k=>decide (k / 8∈pre)||decide (k∈q)⟩:MemM).D x=false from hdx'] at hD2
          have HD2:=hid hD2
          clear hD2 HD hdx hdx'
          gi_wp2_with (first
            | ((try refine ⟨trivial,?_⟩);gi_at_call 58;refine (CallsIn.inRound l2 (CallsIn.inRound l (callsIn_wide.2 HD2.out))).mono ?_;rintro e w7 ⟨rfl,b7⟩;have M7:=hid (J2.out.mono b7);have B7:=hid b7;clear b7))
          have t78:Turns (fun k=>k=p) Z w7:=Turns.of_below B7.out
          have s1:=S1.out;have h4:=S4.out;have h5:=S5.out
          refine ⟨t78.keepUp ω,t78.blk J1.out ω,?_,J3.out.turns t78 ω ω ω,J3'.out.turns t78 ω ω ω,J4.out.trans t78,J5.out.trans ((t78.keepUp ω))⟩
          have:=M7.out
          rw [Rb _ _ _ HDX.out] at this
          rw [CZ (f':=fun k=>(decide (k / 8∈pre)||decide (k∈q))||k == x) (fun k _=>by rw [Bool.eq_iff_iff];simp [or_assoc])]
          exact this
      case done2=>
        rintro xs Z rfl ⟨j1,j2,j3,j3',j4,j5⟩
        rw [CZ (f':=fun k=>decide (k / 8∈pre++[ln])) (fun k _=>by rw [Bool.eq_iff_iff];simp [OC])] at j2
        gi_wp2
        exact ⟨j5,j1,j2,j3,j4⟩
      case stop2=>
        rintro c q Z _ h
        exact h.elim
    case done=>
      rintro D xs W hD rfl ⟨i1,i2,i3,i4⟩ hk
      rw [← Qc] at i2
      have I2:=hid i2;have I4:=hid i4
      clear i1 i2 i3 i4
      gi_wp2
      refine ⟨by simp,.inl ⟨_,_,rfl,run_takeDeferred hk,?_⟩⟩
      have hb:∀ o,Below w4.heap.size W (W.putObj D o):=fun o=>BY (Below.refl _ _) o hD
      exact ⟨_,results_tmp rfl _ _ _,rfl,I2.out.up (hb _) ω ω ω ω,I4.out.up (hb _) ω⟩
    case stop=>
      rintro D c pre W _ _ h _
      exact h.elim
  · have hE:JM g v d p M at_ n w=fun e w'=>e=.returned (ν 1)∧Below w.heap.size w w':=by
      funext e w';unfold JM;rw [if_neg hi]
    rw [hE]
    rw [show inM M at_ n=false by simpa using hi] at HW
    have HW:=hid HW
    clear hE hi h m1 hw1 s1
    go_enter Tryz.func79,Tryz.ntmps79
    go_wp2_with (first | (go_at_call 30;rw [← HW1.out];refine HW.out.mono ?_;rintro e w2 ⟨rfl,rfl⟩))
    go_ret
    exact ⟨rfl,b1⟩
end
section
def XI (b:Bool):Value:=.bool b
theorem Ui (n:Nat):List.replicate n (Value.bool false)=(Ca n fun _=>false).map .bool:=by
  apply List.ext_getElem
  · simp [Ca]
  · intro i h1 h2;simp [Ca]
theorem MemR.cells {w:World} {g v d a:Nat} {M:MemM} (h:MemR w g v d a M) :
    w.cell? ⟨g,0,none⟩=some (.slice (some ⟨v,0,none⟩) M.V.length M.V.length)∧w.cell? ⟨g,1,none⟩=some (.slice (some ⟨d,0,none⟩) M.V.length M.V.length)∧w.cell? ⟨g,2,none⟩=some (.slice (some ⟨a,0,none⟩) M.A.length M.A.length):=
  ⟨h.2.2.1.cell (i:=0) (by simp),h.2.2.1.cell (i:=1) (by simp),h.2.2.1.cell (i:=2) (by simp)⟩
theorem MemR.mono {w w':World} {g v d a:Nat} {M:MemM} (h:MemR w g v d a M) (b:Below w.heap.size w w'):MemR w' g v d a M:=h.turns (X:=fun _=>False) (Turns.of_below b) id id id id
def SP (w:World) (n:Int) (e:Ending) (w':World):Prop:=
  if Ee n then ∃ g v d a,e=.returned (π g)∧MemR w' g v d a (Dd n.toNat)∧(w.heap.size≤g∧w.heap.size≤v∧w.heap.size≤d∧w.heap.size≤a)∧Below w.heap.size w w' else e=.returned (.pointer none)∧w=w'
theorem TT (n:Int) (w:World) (hn:-9223372036854775808≤n∧n≤9223372036854775807):Calls Tryz.prog 21 #[ν n] w (SP w n):=by
  by_cases h:Ee n
  · obtain ⟨n,rfl⟩:∃ m:Nat,n=(m:Int):=⟨n.toNat,by have:=h.1;omega⟩
    have HN:=hid h
    obtain ⟨h1,h2,h3⟩:=h
    have d1:decide ((n:Int)<64)=false:=decide_eq_false ω
    have d2:decide (1048576<(n:Int))=false:=decide_eq_false ω
    have e1:(n:Int).tmod 64=0:=by rw [Int.tmod_eq_emod_of_nonneg ω];exact h3
    have e2:(n:Int).tdiv 8=((n / 8:Nat):Int):=rfl
    have e3:IntKind.i64.wrap ((n / 8:Nat):Int)=((n / 8:Nat):Int):=IntWalk.i64_in _ ω
    have hz:IntKind.i64.wrap 0=0:=rfl
    have h8:n / 8≤200000:=ω
    have hnn:n≤1048576:=ω
    obtain ⟨w1,hw1⟩:∃ w1,w1=w.alloc (.cells #[.slice none 0 0,.slice none 0 0,.slice none 0 0] 75):=⟨_,rfl⟩
    have k1:Blk w1 w.heap.size 75 [.slice none 0 0,.slice none 0 0,.slice none 0 0]:=by rw [hw1];exact AP rfl _ _
    have b1:Below w.heap.size w w1:=by rw [hw1];exact CQ w _
    have K1:=hid k1;have B1:=hid b1;have HW1:=hid hw1
    clear h3 k1 b1 hw1 h1 h2
    generalize hN8:n / 8=N at *
    go_enter Tryz.func21,Tryz.ntmps21
    go_wp2_with (first
      | (at_make;(try rw [← HW1.out]);refine Gy rfl (.tmp 18) (.tmp 18) rfl υ60 (bytes:=1) (z:=.int .u8 0) κ rfl rfl rfl rfl rfl ω ω ?_;intro w2 k2 b2;have K2:=hid k2;have B2:=hid b2;have G2:=hid (K1.out.mono b2);have f0:=G2.out.frozen 0;have z0:=G2.out.cell (i:=0) (by simp);clear k2 b2)
      | (at_make;refine Gy rfl (.tmp 23) (.tmp 23) rfl υ60 (bytes:=1) (z:=.int .u8 0) κ rfl rfl rfl rfl rfl ω ω ?_;intro w3 k3 b3;have K3:=hid k3;have B3:=hid b3;have G3:=hid ((G2.out.set 0 _).mono b3);have V3:=hid ((K2.out.setOtherS (CR K2.out G2.out (by decide)) 0 _).mono b3);have f1:=G3.out.frozen 1;have z1:=G3.out.cell (i:=1) (by simp);clear k3 b3)
      | (at_make;refine Gy rfl (.tmp 29) (.tmp 29) rfl υ73 (bytes:=1) (z:=.bool false) κ rfl rfl rfl rfl rfl ω ω ?_;intro w4 k4 b4;have K4:=hid k4;have B4:=hid b4;have G4:=hid ((G3.out.set 1 _).mono b4);have V4:=hid ((V3.out.setOtherS (CR V3.out G3.out (by decide)) 1 _).mono b4);have D4:=hid ((K3.out.setOtherS (CR K3.out G3.out (by decide)) 1 _).mono b4);have f2:=G4.out.frozen 2;have z2:=G4.out.cell (i:=2) (by simp);clear k4 b4))
    go_ret
    have sw:∀ (X:World) (q:Addr) (u:Value),(X.setCell q u).heap.size=X.heap.size:=fun X q u=>by simp [World.setCell]
    have g4:=G4.out;have v4:=V4.out;have d4:=D4.out;have k4:=K4.out;have hn:=HN.out
    rw [sw] at d4 k4
    have sz1:=B1.out.size;have sz2:=B2.out.size;have sz3:=B3.out.size;have sz4:=B4.out.size
    rw [sw] at sz3 sz4
    have g1:=K1.out.lt;have l2:=K2.out.lt;have l3:=K3.out.lt
    rw [sw] at l3
    have bb:Below w.heap.size w (w4.setCell ⟨w.heap.size,2,none⟩ (.slice (some ⟨w3.heap.size,0,none⟩) N N)):=by
      have q2:=(DO B1.out B2.out sz1).setCell (p:=⟨w.heap.size,0,none⟩) (Nat.le_refl _) (.slice (some ⟨w1.heap.size,0,none⟩) n n)
      have q3:=(DO q2 B3.out (by rw [sw];omega)).setCell (p:=⟨w.heap.size,1,none⟩) (Nat.le_refl _) (.slice (some ⟨w2.heap.size,0,none⟩) n n)
      exact (DO q3 B4.out (by rw [sw];omega)).setCell (p:=⟨w.heap.size,2,none⟩) (Nat.le_refl _) _
    unfold SP
    rw [if_pos hn]
    refine ⟨w.heap.size,w1.heap.size,w2.heap.size,w3.heap.size,rfl,⟨Rg hn,ω,?_,?_,?_,?_⟩,⟨Nat.le_refl _,ω,ω,ω⟩,bb⟩
    · have:=g4.set 2 (.slice (some ⟨w3.heap.size,0,none⟩) N N)
      simp only [Dd,List.length_replicate,Int.toNat_natCast,Bv,hN8]
      exact this
    · rw [KS] at v4;exact v4.setOtherS ω 2 _
    · rw [KS] at d4;exact d4.setOtherS ω 2 _
    · rw [Ui] at k4
      simp only [Dd,Int.toNat_natCast,hN8]
      exact k4.setOtherS ω 2 _
  · have hE:SP w n (.returned (.pointer none)) w:=by unfold SP;rw [if_neg h];exact ⟨rfl,rfl⟩
    have HE:=hid hE
    clear hE
    by_cases h1:64≤n
    · have d1:decide (n<64)=false:=decide_eq_false ω
      by_cases h2:n≤1048576
      · have d2:decide (1048576<n)=false:=decide_eq_false ω
        have h3:¬ n % 64=0:=fun q=>h ⟨h1,h2,q⟩
        have e1:n.tmod 64=n % 64:=Int.tmod_eq_emod_of_nonneg ω
        have e2:IntKind.i64.wrap (n % 64)=n % 64:=IntWalk.i64_in _ ω
        clear h
        generalize n % 64=r at *
        have d3:(r != 0)=true:=by simpa using h3
        go_enter Tryz.func21,Tryz.ntmps21
        go_wp2
        go_ret
        exact HE.out
      · have d2:decide (1048576<n)=true:=decide_eq_true ω
        go_enter Tryz.func21,Tryz.ntmps21
        go_wp2
        go_ret
        exact HE.out
    · have d1:decide (n<64)=true:=decide_eq_true ω
      go_enter Tryz.func21,Tryz.ntmps21
      go_wp2
      go_ret
      exact HE.out
end
section
theorem Kw {w:World} {g v d a:Nat} {M:MemM} (h:MemR w g v d a M) (at_ n:Int) (ha:-9223372036854775808≤at_∧at_≤9223372036854775807) (hn:-9223372036854775808≤n∧n≤9223372036854775807) :
    Calls Tryz.prog 62 #[π g,ν at_,ν n] w fun e w'=>e=.returned (.bool (inM M at_ n))∧w=w':=by
  have hl:=h.1.2.2.2.2
  obtain ⟨c0,c1,c2⟩:=h.cells
  clear h
  unfold inM
  generalize M.V.length=L at *
  by_cases h1:0≤at_
  · have d1:decide (0≤at_)=true:=decide_eq_true h1
    by_cases h2:0≤n
    · have d2:decide (0≤n)=true:=decide_eq_true h2
      by_cases h4:at_≤(L:Int)
      · have d4:decide (at_≤(L:Int))=true:=decide_eq_true h4
        have e1:IntKind.i64.wrap ((L:Int)-at_)=(L:Int)-at_:=IntWalk.i64_in _ ω
        by_cases h3:n≤(L:Int)-at_
        · have d3:decide (n≤(L:Int)-at_)=true:=decide_eq_true h3
          rw [decide_eq_true ⟨h1,h2,ω⟩]
          go_enter Tryz.func62,Tryz.ntmps62
          go_wp2
          go_ret
          exact ⟨rfl,rfl⟩
        · have d3:decide (n≤(L:Int)-at_)=false:=decide_eq_false h3
          rw [decide_eq_false (fun q=>h3 ω)]
          go_enter Tryz.func62,Tryz.ntmps62
          go_wp2
          go_ret
          exact ⟨rfl,rfl⟩
      · have d4:decide (at_≤(L:Int))=false:=decide_eq_false h4
        rw [decide_eq_false (fun q=>h4 ω)]
        go_enter Tryz.func62,Tryz.ntmps62
        go_wp2
        go_ret
        exact ⟨rfl,rfl⟩
    · have d2:decide (0≤n)=false:=decide_eq_false h2
      rw [decide_eq_false (fun q=>h2 q.2.1)]
      go_enter Tryz.func62,Tryz.ntmps62
      go_wp2
      go_ret
      exact ⟨rfl,rfl⟩
  · have d1:decide (0≤at_)=false:=decide_eq_false h1
    rw [decide_eq_false (fun q=>h1 q.1)]
    go_enter Tryz.func62,Tryz.ntmps62
    go_wp2
    go_ret
    exact ⟨rfl,rfl⟩
theorem PK (V D:List UInt8) (k:Nat):BC V D k=true↔EB V k≠EB D k:=by simp [BC]
theorem SZ {V D:List UInt8} {k:Nat} (hl:D.length=V.length) (h:8*k+8≤V.length):EB V k=EB D k↔∀ i,i<8→bAt V (8*k+i)=bAt D (8*k+i):=by
  have h1:=Gg (X:=V) h
  have h2:=Gg (X:=D) (k:=k) ω
  constructor
  · intro e i hi
    have a:=Gf (X:=V) (k:=k) hi
    have b:=Gf (X:=D) (k:=k) hi
    unfold bAt
    rw [← a,← b,e]
  · intro q
    refine Gs ω fun i hi=>?_
    rw [h2] at hi
    rw [Gf hi,Gf hi]
    exact UInt8.toNat_inj.1 (q i hi)
theorem DV {w:World} {g:Nat} {X:List UInt8} (h:Blk w g 5 (X.map Ap)) {i:Nat} (hi:i<X.length):w.cell? ⟨g,i,none⟩=some (.int .u8 (bAt X i:Int)):=by
  rw [h.cell (i:=i) (by simpa using hi)]
  simp [Ap,FU hi]
theorem Lj {w:World} {g v d a:Nat} {M:MemM} (h:MemR w g v d a M) (k:Nat) (hk:k<M.A.length) :
    Calls Tryz.prog 59 #[π g,ν (k:Int)] w fun e w'=>e=.returned (.bool (BC M.V M.D k))∧Below w.heap.size w w':=by
  have hVl:=h.1.2.2.2.2
  have hAl:=h.1.2.1
  have hDl:=h.1.1
  have hk8:8*k+8≤M.V.length:=ω
  have e0:IntKind.i64.wrap (8*(k:Int))=((8*k:Nat):Int):=by rw [IntWalk.i64_in _ ω];omega
  have hq:=SZ hDl hk8
  have hdb:=PK M.V M.D k
  have HQ:=hid hq;have HDB:=hid hdb;have H:=hid h;have HDL:=hid hDl
  clear h hq hdb hDl hAl
  generalize hdd:BC M.V M.D k=db at *
  generalize h8:8*k=q at *
  have e1:IntKind.i64.wrap ((q:Int)+8)=(q:Int)+8:=IntWalk.i64_in _ ω
  clear h8 hdd
  go_enter Tryz.func59,Tryz.ntmps59
  go_wp2
  go_loopw [5] (fun i wr=>∃ j:Nat,j≤8∧i=ν (q+j:Nat)∧(∀ i,i<j→bAt M.V (q+i)=bAt M.D (q+i))∧Below w.heap.size w wr) (fun i _=>q+8-(intOf i).toNat)
  case atStart=>exact ⟨0,ω,rfl,fun i hi=>absurd hi ω,Below.refl _ _⟩
  case round=>
    obtain ⟨j,hj,rfl,hp,br⟩:=hrel
    have HP:=hid hp
    have hm:=H.out.mono br
    obtain ⟨c0,c1,c2⟩:=hm.cells
    have i0:((q+j:Nat):Int)=(q:Int)+j:=ω
    by_cases hjc:j<8
    · have cv:=DV hm.2.2.2.1 (i:=q+j) ω
      have cd:=DV hm.2.2.2.2.1 (i:=q+j) (by have:=HDL.out;omega)
      have i1:((q+j:Nat):Int)<(q:Int)+8:=ω
      have i2:((q+j:Nat):Int)<(M.V.length:Int):=ω
      have i3:q+j<M.V.length:=ω
      have e3:IntKind.i64.wrap (((q+j:Nat):Int)+1)=((q+j:Nat):Int)+1:=IntWalk.i64_in _ ω
      have BR:=hid br
      clear hm hp i0 br
      generalize hx:bAt M.V (q+j)=x at *
      generalize hy:bAt M.D (q+j)=y at *
      have HX:=hid hx;have HY:=hid hy
      clear hx hy
      generalize hK:q+j=K at *
      have HK:=hid hK
      clear hK
      by_cases hxy:x=y
      · subst hxy
        go_wp2_with fail
        go_quiet (fail)
        go_wp2
        go_roundw
        case rel=>
          have hK:=HK.out
          refine ⟨j+1,ω,by go_num,fun i hi=>?_,Av BR.out _⟩
          rcases Nat.lt_succ_iff_lt_or_eq.1 hi with q1 | rfl
          · exact HP.out i q1
          · rw [hK,HX.out,HY.out]
        case measure=>have hK:=HK.out;simp [intOf];omega
      · have hne:((x:Int) != (y:Int))=true:=by simp;omega
        have HNE:=hid hxy
        clear hxy
        go_wp2_with fail
        go_quiet (fail)
        go_wp2
        go_ret
        refine ⟨Bd ?_,Av BR.out _⟩
        refine (HDB.out.2 (fun e=>HNE.out ?_)).symm
        have:=HQ.out.1 e j hjc
        rw [HK.out,HX.out,HY.out] at this
        exact this
    · obtain rfl:j=8:=ω
      clear hm hp
      go_wp2
      go_ret
      refine ⟨Bd ?_,br⟩
      have:¬ (db=true):=fun e=>(HDB.out.1 e) (HQ.out.2 HP.out)
      simpa using this
end
section
theorem Ml (V:List UInt8) {i:Nat} (h:i<V.length):Ap V[i]=.int .u8 (bAt V i:Int):=by simp [Ap,FU h]
theorem Pq (V D:List UInt8) (q j:Nat) (hV:q+j<V.length) (hD:q+j<D.length) :
    ((splice D q ((V.drop q).take j)).map Ap).set (q+j) (.int .u8 (bAt V (q+j):Int))=(splice D q ((V.drop q).take (j+1))).map Ap:=by
  have hl:((V.drop q).take j).length=j:=by simp;omega
  have hs:=He D q ((V.drop q).take j) V[q+j] (by rw [hl];exact hD)
  rw [hl] at hs
  rw [← Ml V hV,← List.map_set,hs]
  congr 2
  rw [List.take_add_one,List.getElem?_drop,List.getElem?_eq_getElem hV]
  rfl
theorem Hm {w:World} {a:Nat} {A:List Bool} (h:Blk w a 4 (A.map .bool)) {k:Nat} (hk:k<A.length):w.cell? ⟨a,k,none⟩=some (.bool (A.getD k false)):=by
  rw [h.cell (i:=k) (by simpa using hk)];simp [hk]
theorem MemR.setD {w w':World} {g v d a:Nat} {M:MemM} {D:List UInt8} {A:List Bool} (h:MemR w g v d a M) (t:Turns (fun k=>k=d∨k=a) w w') (hd:Blk w' d 5 (D.map Ap)) (ha:Blk w' a 4 (A.map .bool)) (hD:D.length=M.D.length) (hA:A.length=M.A.length):MemR w' g v d a ⟨M.V,D,A⟩:=by
  obtain ⟨_,h1,h2,h3,h4,h5,h6,h7,h8,h9⟩:=EY h
  obtain ⟨⟨l1,l2,l3,l4,l5⟩,hne,hg,hv,_,_⟩:=h
  refine ⟨⟨hD.trans l1,by show A.length*8=M.V.length;rw [hA];exact l2,l3,l4,l5⟩,hne,?_,t.blk hv ω,hd,ha⟩
  have:=t.blk hg ω
  rw [← hA] at this
  exact this
theorem Mz {w:World} {g v d a:Nat} {M:MemM} (h:MemR w g v d a M) (k:Nat) (hk:k<M.A.length) :
    Calls Tryz.prog 39 #[π g,ν (k:Int)] w fun e w'=>(∃ x,e=.returned x)∧MemR w' g v d a ⟨M.V,Dc (fun i=>i == k) M.V M.D,M.A.set k false⟩∧Turns (fun b=>b=d∨b=a) w w':=by
  obtain ⟨av,ag1,ag2,ap1,ap2,ap3,gl,vl,dl,al⟩:=EY h
  have hVl:=h.1.2.2.2.2
  have hAl:=h.1.2.1
  have hDl:=h.1.1
  have hk8:8*k+8≤M.V.length:=ω
  have e0:IntKind.i64.wrap (8*(k:Int))=((8*k:Nat):Int):=by rw [IntWalk.i64_in _ ω];omega
  have hmx:=LS hDl (k:=k) ω
  unfold EB at hmx
  rw [← hmx]
  have H:=hid h;have HDL:=hid hDl
  have hst:=fun j (hj:j<8)=>Pq M.V M.D (8*k) j ω ω
  have HST:=hid hst
  clear h hDl hAl hmx hst
  generalize h8:8*k=q at *
  have e1:IntKind.i64.wrap ((q:Int)+8)=(q:Int)+8:=IntWalk.i64_in _ ω
  clear h8
  go_enter Tryz.func39,Tryz.ntmps39
  go_wp2
  go_loopw [4] (fun i wr=>∃ j:Nat,j≤8∧i=ν (q+j:Nat)∧Blk wr d 5 ((splice M.D q ((M.V.drop q).take j)).map Ap)∧Turns (fun b=>b=d) w wr) (fun i _=>q+8-(intOf i).toNat)
  case atStart=>exact ⟨0,ω,rfl,by simpa [splice] using H.out.2.2.2.2.1,Turns.refl _ _⟩
  case round=>
    obtain ⟨j,hj,rfl,hb,ht⟩:=hrel
    have hg:=ht.blk H.out.2.2.1 ag2
    have hv:=ht.blk H.out.2.2.2.1 av
    have c0:wr.cell? ⟨g,0,none⟩=some (.slice (some ⟨v,0,none⟩) M.V.length M.V.length):=hg.cell (i:=0) (by simp)
    have c1:wr.cell? ⟨g,1,none⟩=some (.slice (some ⟨d,0,none⟩) M.V.length M.V.length):=hg.cell (i:=1) (by simp)
    have c2:wr.cell? ⟨g,2,none⟩=some (.slice (some ⟨a,0,none⟩) M.A.length M.A.length):=hg.cell (i:=2) (by simp)
    have c2f:=hg.frozen 2
    have i0:((q+j:Nat):Int)=(q:Int)+j:=ω
    by_cases hjc:j<8
    · have cv:=DV hv (i:=q+j) ω
      have hlen:(splice M.D q ((M.V.drop q).take j)).length=M.V.length:=by
        rw [length_splice _ _ _ (by have:=HDL.out;simp;omega)];exact HDL.out
      have cd:=DV hb (i:=q+j) ω
      have fd:=hb.frozen (q+j)
      have i1:((q+j:Nat):Int)<(q:Int)+8:=ω
      have i2:((q+j:Nat):Int)<(M.V.length:Int):=ω
      have i3:q+j<M.V.length:=ω
      have e3:IntKind.i64.wrap (((q+j:Nat):Int)+1)=((q+j:Nat):Int)+1:=IntWalk.i64_in _ ω
      have hnew:=hb.set (q+j) (.int .u8 (bAt M.V (q+j):Int))
      rw [HST.out j hjc] at hnew
      have HB:=hid hnew;have HT:=hid ht
      clear hg hv hb ht i0 hlen hnew
      generalize hx:bAt M.V (q+j)=x at *
      generalize hK:q+j=K at *
      have HK:=hid hK
      clear hK hx
      go_wp2_with fail
      go_region
      all_goals
        go_wp2
        go_roundw
        case rel=>have hK:=HK.out;exact ⟨j+1,ω,by go_num,HB.out,(HT.out.setCell (p:=⟨d,K,none⟩) rfl _).drew⟩
        case measure=>have hK:=HK.out;simp [intOf];omega
    · obtain rfl:j=8:=ω
      have ha:=ht.blk H.out.2.2.2.2.2 ap3
      obtain ⟨z,hz⟩:∃ z,wr.cell? ⟨a,k,none⟩=some z:=⟨_,ha.cell (i:=k) (by simpa using hk)⟩
      have hf:=ha.frozen k
      have i1:(k:Int)<(M.A.length:Int):=ω
      have HA:=hid ha;have HB:=hid hb;have HT:=hid ht
      clear ha hb ht hg hv i0
      go_wp2
      go_end0
      have t1:Turns (fun b=>b=a) wr (wr.setCell ⟨a,k,none⟩ (.bool false)):=(Turns.refl (fun b=>b=a) wr).setCell (p:=⟨a,k,none⟩) rfl _
      have t2:Turns (fun b=>b=d∨b=a) w (wr.setCell ⟨a,k,none⟩ (.bool false)):=(HT.out.mono (fun _ q=>.inl q)).trans (t1.mono (fun _ q=>.inr q))
      have hA:=HA.out.set k (.bool false)
      rw [← List.map_set] at hA
      exact ⟨⟨_,rfl⟩,H.out.setD t2 (t1.blk HB.out ap3.symm) hA (by rw [length_splice _ _ _ (by have:=HDL.out;simp;omega)]) (by simp),t2⟩
theorem Qb {w:World} {g v d a:Nat} {M:MemM} (h:MemR w g v d a M) :
    Calls Tryz.prog 45 #[π g] w fun e w'=>(∃ x,e=.returned x)∧MemR w' g v d a (Fj M)∧Turns (fun b=>b=d∨b=a) w w':=by
  have hVl:=h.1.2.2.2.2
  have hAl:=h.1.2.1
  have hN:M.A.length≤200000:=ω
  have H:=hid h
  have hf:Fj M=⟨M.V,Dc (fun k=>M.A.getD k false) M.V M.D,Ca M.A.length fun _=>false⟩:=rfl
  rw [hf]
  clear h hf hAl
  go_enter Tryz.func45,Tryz.ntmps45
  go_wp2
  go_loopw [2] (fun i wr=>∃ k:Nat,k≤M.A.length∧i=ν k∧MemR wr g v d a ⟨M.V,Dc (fun i=>decide (i<k)&&M.A.getD i false) M.V M.D,Ca M.A.length fun i=>!decide (i<k)&&M.A.getD i false⟩∧Turns (fun b=>b=d∨b=a) w wr) (fun i _=>M.A.length-(intOf i).toNat)
  case atStart=>
    refine ⟨0,ω,rfl,?_,Turns.refl _ _⟩
    rw [Bl (g:=fun _=>false) (fun k _=>by simp),In,Bf (g:=fun k=>M.A.getD k false) (fun k _=>by simp),Gx]
    exact H.out
  case round=>
    obtain ⟨k,hk,rfl,hm,ht⟩:=hrel
    obtain ⟨c0,c1,c2⟩:=hm.cells
    have hl:(Ca M.A.length fun i=>!decide (i<k)&&M.A.getD i false).length=M.A.length:=Bv _ _
    by_cases hkl:k<M.A.length
    · have ca:wr.cell? ⟨a,k,none⟩=some (.bool (M.A.getD k false)):=by
        rw [Hm hm.2.2.2.2.2 (by show k<(Ca _ _).length;rw [Bv];exact hkl)]
        show some (Value.bool ((Ca _ _).getD k false))=_
        rw [LU _ hkl];simp
      simp only [hl] at c2
      have HK:=hid (Mz hm k (by rw [hl];exact hkl))
      have HM:=hid hm;have HT:=hid ht
      have i1:(k:Int)<(M.A.length:Int):=ω
      have e3:IntKind.i64.wrap ((k:Int)+1)=(k:Int)+1:=IntWalk.i64_in _ ω
      clear hm ht hl
      by_cases hb:M.A.getD k false=true
      · rw [hb] at ca
        have HBT:=hid hb
        clear hb
        go_wp2_with (first
          | (go_at_call 39;refine HK.out.mono ?_;rintro e w2 ⟨⟨z,rfl⟩,m2,t2⟩;have M2:=hid m2;have T2:=hid t2;clear m2 t2))
        go_roundw
        case rel=>
          refine ⟨k+1,ω,by go_num,?_,HT.out.trans T2.out⟩
          have:=M2.out
          rw [Io,Ic] at this
          rw [Bl (g:=fun i=>decide (i<k)&&M.A.getD i false||i == k) (fun i _=>?_),Bf (g:=fun i=>if i=k then false else !decide (i<k)&&M.A.getD i false) (fun i _=>?_)]
          · exact this
          · by_cases e:i=k
            · subst e;simp
            · have:(i<k+1)↔(i<k):=ω
              simp [e,this]
          · by_cases e:i=k
            · subst e;rw [HBT.out];simp
            · have:(i<k+1)↔(i<k):=ω
              simp [e,this]
        case measure=>simp [intOf];omega
      · rw [show M.A.getD k false=false by simpa using hb] at ca
        have HBT:=hid (show M.A.getD k false=false by simpa using hb)
        clear hb
        go_wp2
        go_roundw
        case rel=>
          refine ⟨k+1,ω,by go_num,?_,HT.out⟩
          have:=HM.out
          rw [Bl (g:=fun i=>decide (i<k)&&M.A.getD i false) (fun i _=>?_),Bf (g:=fun i=>!decide (i<k)&&M.A.getD i false) (fun i _=>?_)]
          · exact this
          · by_cases e:i=k
            · subst e;rw [HBT.out];simp
            · have:(i<k+1)↔(i<k):=ω
              simp [this]
          · by_cases e:i=k
            · subst e;rw [HBT.out];simp
            · have:(i<k+1)↔(i<k):=ω
              simp [this]
        case measure=>simp [intOf];omega
    · obtain rfl:k=M.A.length:=ω
      simp only [hl] at c2
      have HM:=hid hm;have HT:=hid ht
      clear hm ht hl
      go_wp2
      go_end0
      refine ⟨⟨_,rfl⟩,?_,HT.out⟩
      have hm:=HM.out
      have h8:=hm.1.1
      rw [Bl (g:=fun k=>M.A.getD k false) (fun k hk=>?_),Bf (g:=fun _=>false) (fun k hk=>by simp [hk])] at hm
      · exact hm
      · have:k<M.A.length:=by have:=H.out.1.2.1;have:=H.out.1.1;omega
        simp [this]
end
section
theorem JE (V b:List UInt8) (q j:Nat) (hb:j<b.length) (hV:q+b.length≤V.length) :
    ((splice V q (b.take j)).map Ap).set (q+j) (.int .u8 (bAt b j:Int))=(splice V q (b.take (j+1))).map Ap:=by
  have hl:(b.take j).length=j:=by simp;omega
  have hs:=He V q (b.take j) b[j] (by rw [hl];omega)
  rw [hl] at hs
  rw [← Ml b hb,← List.map_set,hs]
  congr 2
  rw [List.take_add_one,List.getElem?_eq_getElem hb]
  rfl
theorem TI (q j i:Nat):inT q (j+1) 8 i=(inT q j 8 i||i == (q+j) / 8):=by
  rw [Bool.eq_iff_iff]
  simp only [inT,decide_eq_true_eq,Bool.or_eq_true,beq_iff_eq]
  omega
def JP (g v d a:Nat) (M:MemM) (at_:Int) (b:List UInt8) (w:World) (e:Ending) (w':World):Prop:=
  if inM M at_ b.length=true then e=.returned (ν 0)∧MemR w' g v d a (CM M at_.toNat b)∧Turns (fun k=>k=v∨k=a) w w' else e=.returned (ν 1)∧w=w'
theorem QJ {w:World} {g v d a:Nat} {M:MemM} (h:MemR w g v d a M) (at_:Int) (hat:-9223372036854775808≤at_∧at_≤9223372036854775807) (ab:Option Addr) (c:Nat) (b:List UInt8) (hr:BB w ab c b) (hs:0<b.length→∀ k,(∃ off,ab=some ⟨k,off,none⟩)→k≠v∧k≠a) :
    Calls Tryz.prog 42 #[π g,ν at_,.slice ab b.length c] w (JP g v d a M at_ b w):=by
  have hbl:=JB hr
  have HW:=hid (Kw h at_ b.length hat ω)
  by_cases hi:inM M at_ b.length=true
  · have hE:JP g v d a M at_ b w=fun e w'=>e=.returned (ν 0)∧MemR w' g v d a (CM M at_.toNat b)∧Turns (fun k=>k=v∨k=a) w w':=by
      funext e w';unfold JP;rw [if_pos hi]
    rw [hE]
    rw [hi] at HW
    clear hE
    obtain ⟨q,n0,rfl,hn0,hl⟩:=ED hi
    obtain rfl:b.length=n0:=ω
    rw [show ((q:Int)).toNat=q from rfl]
    obtain ⟨av,ag1,ag2,ap1,ap2,ap3,gl,vl,dl,al⟩:=EY h
    have hVl:=h.1.2.2.2.2
    have hAl:=h.1.2.1
    have hf:CM M q b=⟨splice M.V q b,M.D,Ca M.A.length fun k=>M.A.getD k false&&!inT q b.length 8 k⟩:=rfl
    rw [hf]
    obtain ⟨c0,c1,c2⟩:=h.cells
    have H:=hid h;have HR:=hid hr;have HS:=hid hs
    have hst:=fun j (hj:j<b.length)=>JE M.V b q j hj hl
    have HST:=hid hst
    clear h hr hs hf hst hi hn0 hat
    go_enter Tryz.func42,Tryz.ntmps42
    go_wp2_with (first | (go_at_call 62;refine HW.out.mono ?_;rintro e w1 ⟨rfl,rfl⟩))
    go_loopw [8] (fun i wr=>∃ j:Nat,j≤b.length∧i=ν j∧Blk wr v 5 ((splice M.V q (b.take j)).map Ap)∧Blk wr a 4 ((Ca M.A.length fun k=>M.A.getD k false&&!inT q j 8 k).map .bool)∧Turns (fun k=>k=v∨k=a) w wr) (fun i _=>b.length-(intOf i).toNat)
    case atStart=>
      refine ⟨0,ω,rfl,by simpa [splice] using H.out.2.2.2.1,?_,Turns.refl _ _⟩
      rw [Bf (g:=fun k=>M.A.getD k false) (fun k _=>by simp [inT]),Gx]
      exact H.out.2.2.2.2.2
    case round=>
      obtain ⟨j,hj,rfl,hv,ha,ht⟩:=hrel
      have hg:=ht.blk H.out.2.2.1 ω
      have k0:wr.cell? ⟨g,0,none⟩=some (.slice (some ⟨v,0,none⟩) M.V.length M.V.length):=hg.cell (i:=0) (by simp)
      by_cases hjb:j<b.length
      · have rb:=ht.row HR.out (fun hn k hk=>by have:=HS.out hn k hk;omega)
        obtain ⟨bb,bo,rfl,hbb,cb⟩:=Row.bytes rb ω
        have cbj:=cb j hjb
        have hlv:(splice M.V q (b.take j)).length=M.V.length:=length_splice _ _ _ (by simp;omega)
        have cv:=DV hv (i:=q+j) ω
        have fv:=hv.frozen (q+j)
        have i1:(j:Int)<(b.length:Int):=ω
        have i2:((q+j:Nat):Int)<(M.V.length:Int):=ω
        have i3:q+j<M.V.length:=ω
        have e1:IntKind.i64.wrap ((q:Int)+j)=((q+j:Nat):Int):=by rw [IntWalk.i64_in _ ω];omega
        have e2:IntKind.i64.wrap ((j:Int)+1)=(j:Int)+1:=IntWalk.i64_in _ ω
        have e3:((q+j:Nat):Int).tdiv 8=(((q+j) / 8:Nat):Int):=rfl
        have e4:IntKind.i64.wrap (((q+j) / 8:Nat):Int)=(((q+j) / 8:Nat):Int):=IntWalk.i64_in _ ω
        have hKA:(q+j) / 8<M.A.length:=ω
        have hnew:=hv.set (q+j) (.int .u8 (bAt b j:Int))
        rw [HST.out j hjb] at hnew
        have hin:=TI q j
        have hg2:=hg.setOtherS ag1 (q+j) (.int .u8 (bAt b j:Int))
        have ha2:=ha.setOtherS ap2 (q+j) (.int .u8 (bAt b j:Int))
        have HB:=hid hnew;have HT:=hid ht;have HIN:=hid hin
        clear rb cb hv ht hg ha hnew hin hlv
        generalize bAt b j=x at *
        generalize hK:q+j=K at *
        have HK:=hid hK
        clear hK
        generalize hKK:K / 8=L at *
        have HKK:=hid hKK
        clear hKK
        have g2:(wr.setCell ⟨v,K,none⟩ (.int .u8 x)).cell? ⟨g,2,none⟩=some (.slice (some ⟨a,0,none⟩) M.A.length M.A.length):=hg2.cell (i:=2) (by simp)
        have ca:=Hm ha2 (k:=L) (by rw [Bv];exact hKA)
        have fa:=ha2.frozen L
        have i5:(L:Int)<(M.A.length:Int):=ω
        have hnA:=ha2.set L (.bool false)
        rw [← List.map_set,Ic] at hnA
        have HA:=hid hnA
        clear hg2 ha2 hnA
        go_wp2_with fail
        go_region
        all_goals
          go_wp2
          go_roundw
          case rel=>
            have hK:=HK.out
            refine ⟨j+1,ω,by go_num,HB.out.setOtherS ap2.symm L (.bool false),?_,((HT.out.setCell (p:=⟨v,K,none⟩) (.inl rfl) _).setCell (p:=⟨a,L,none⟩) (.inr rfl) _).drew⟩
            have:=HA.out
            rw [Bf (g:=fun i=>if i=L then false else M.A.getD i false&&!inT q j 8 i) (fun i _=>?_)]
            · exact this
            · rw [HIN.out i]
              by_cases e:i=L
              · subst e;simp
              · rw [if_neg e,show (i == L)=false from by simpa using e];simp
          case measure=>simp [intOf];omega
      · obtain rfl:j=b.length:=ω
        have HV:=hid hv;have HA:=hid ha;have HT:=hid ht;have HG:=hid hg
        clear hv ha ht hg
        go_wp2
        go_ret
        have hsl:(splice M.V q b).length=M.V.length:=length_splice _ _ _ hl
        have hv:=HV.out
        rw [List.take_length] at hv
        obtain ⟨l1,l2,l3,l4,l5⟩:=H.out.1
        refine ⟨rfl,⟨⟨?_,?_,?_,?_,?_⟩,av,?_,hv,HT.out.blk H.out.2.2.2.2.1 ω,HA.out⟩,HT.out⟩
        · show M.D.length=(splice M.V q b).length;rw [hsl];exact l1
        · show (Ca _ _).length*8=(splice M.V q b).length;rw [hsl,Bv];exact l2
        · show (splice M.V q b).length % 64=0;rw [hsl];exact l3
        · show 64≤(splice M.V q b).length;rw [hsl];exact l4
        · show (splice M.V q b).length≤1048576;rw [hsl];exact l5
        · have:=HG.out
          rw [← hsl,← Bv M.A.length fun k=>M.A.getD k false&&!inT q b.length 8 k] at this
          exact this
  · have hE:JP g v d a M at_ b w=fun e w'=>e=.returned (ν 1)∧w=w':=by
      funext e w';unfold JP;rw [if_neg hi]
    rw [hE]
    rw [show inM M at_ b.length=false by simpa using hi] at HW
    clear hE hi h hr
    go_enter Tryz.func42,Tryz.ntmps42
    go_wp2_with (first | (go_at_call 62;refine HW.out.mono ?_;rintro e w1 ⟨rfl,rfl⟩))
    go_ret
    exact ⟨rfl,rfl⟩
end
section
def Xv (g v d a:Nat) (M:MemM) (line:Int) (w:World) (e:Ending) (w':World):Prop:=
  if 0≤line∧line<(M.V.length / 64:Nat) then e=.returned (ν 0)∧MemR w' g v d a (Tv M line.toNat)∧Turns (fun k=>k=d∨k=a) w w' else e=.returned (ν 1)∧w=w'
theorem Me {w:World} {g v d p:Nat} {M:MemM} (h:MemR w g v d p M) :
    Calls Tryz.prog 38 #[π g] w fun e w'=>∃ a c,e=.returned (.slice a (BP M).length c)∧SQ w' w.heap.size a c (BP M)∧Below w.heap.size w w':=by
  have H:=hid h
  have HD:=hid (fun X (b:Below w.heap.size w X) k (hk:k<M.A.length)=>Lj (h.mono b) k hk)
  have hA:=h.1.2.1
  have hVl:=h.1.2.2.2.2
  have hN:M.A.length≤200000:=ω
  have hL:BP M=GQ M.V M.D M.A.length:=rfl
  rw [hL]
  clear h hA hVl hL
  go_enter Tryz.func38,Tryz.ntmps38
  go_wp2
  go_loopw [3,4,5] (fun l i _ wr=>∃ (k:Nat) (a:Option Addr) (c:Nat) (L:List Nat),k≤M.A.length∧i=ν k∧l=.slice a L.length c∧L=GQ M.V M.D k∧SQ wr w.heap.size a c L∧Below w.heap.size w wr) (fun _ i _ _=>M.A.length-(intOf i).toNat)
  case atStart=>exact ⟨0,none,0,[],ω,rfl,rfl,rfl,Own.nil _ _ _ _,Below.refl _ _⟩
  case round=>
    obtain ⟨k,a,c,L,hk,rfl,rfl,hL,ho,br⟩:=hrel
    have hLl:L.length≤k:=by rw [hL];exact GR _ _ _
    have HL:=hid hL
    obtain ⟨c0,c1,c2⟩:=(H.out.mono br).cells
    clear hL
    by_cases hlt:k<M.A.length
    · have HC:=hid (HD.out wr br k hlt)
      have e3:IntKind.i64.wrap ((k:Int)+1)=(k:Int)+1:=IntWalk.i64_in _ ω
      have i1:(k:Int)<(M.A.length:Int):=ω
      have hsucc:=Ko M.V M.D k
      have HSU:=hid hsucc
      clear hsucc
      have BR:=hid br
      have HO:=hid ho
      clear br ho
      by_cases hb:BC M.V M.D k=true
      · rw [hb] at HC HSU
        clear hb
        go_wp2_with (first
          | (go_at_call 59;refine HC.out.mono ?_;rintro e w1 ⟨rfl,b1⟩;have B1:=hid (Am BR.out b1);have O1:=hid (HO.out.mono b1);clear b1)
          | (at_builtin;refine DN rfl (.tmp 19) (.tmp 21) rfl EIp w.heap.size rfl rfl (O1.out.alloc _) (LG _ _ _) (by simp [Value.oneCell']) ω ω (by have:=B1.out.size;simp;omega) ?_;intro a3 c3 w3 o3 g3 b3;have O3:=hid o3;have B3:=hid ((AT B1.out _).trans b3);clear o3 g3 b3))
        go_roundw
        case rel=>exact ⟨k+1,a3,c3,L++[k],ω,by go_num,by simp,by rw [HSU.out,← HL.out];rfl,by show Own _ _ _ 1 a3 (L++[k]).length c3 ((L++[k]).map _);rw [List.length_append,List.map_append];exact O3.out,B3.out⟩
        case measure=>simp [intOf];omega
      · rw [show BC M.V M.D k=false by simpa using hb] at HC HSU
        clear hb
        go_wp2_with (first
          | (go_at_call 59;refine HC.out.mono ?_;rintro e w1 ⟨rfl,b1⟩;have B1:=hid (Am BR.out b1);have O1:=hid (HO.out.mono b1);clear b1))
        go_roundw
        case rel=>exact ⟨k+1,a,c,L,ω,by go_num,rfl,by rw [HSU.out,← HL.out];simp,O1.out,B1.out⟩
        case measure=>simp [intOf];omega
    · obtain rfl:k=M.A.length:=ω
      go_wp2
      go_ret
      exact ⟨a,c,by rw [← HL.out];rfl,by rw [← HL.out];exact ho,br⟩
end
section
theorem Qg (q j i:Nat):inT q (j+1) 64 i=(inT q j 64 i||(q+j) / 64 == i):=by
  rw [Bool.eq_iff_iff]
  simp only [inT,decide_eq_true_eq,Bool.or_eq_true,beq_iff_eq]
  omega
theorem Ou (M:MemM) (at_ n:Nat):En M at_ n=⟨M.V,M.D,flT M fun k=>inT at_ n 64 (k / 8)⟩:=rfl
def JN (g v d a:Nat) (M:MemM) (at_ n:Int) (w:World) (e:Ending) (w':World):Prop:=
  if inM M at_ n=true then e=.returned (ν 0)∧MemR w' g v d a (En M at_.toNat n.toNat)∧Turns (fun k=>k=a) w w' else e=.returned (ν 1)∧w=w'
theorem Qd {w:World} {g v d a:Nat} {M:MemM} (h:MemR w g v d a M) (at_ n:Int) (ha:-9223372036854775808≤at_∧at_≤9223372036854775807) (hn:-9223372036854775808≤n∧n≤9223372036854775807) :
    Calls Tryz.prog 44 #[π g,ν at_,ν n] w (JN g v d a M at_ n w):=by
  have HW:=hid (Kw h at_ n ha hn)
  by_cases hi:inM M at_ n=true
  · have hE:JN g v d a M at_ n w=fun e w'=>e=.returned (ν 0)∧MemR w' g v d a (En M at_.toNat n.toNat)∧Turns (fun k=>k=a) w w':=by
      funext e w';unfold JN;rw [if_pos hi]
    rw [hE]
    rw [hi] at HW
    clear hE
    obtain ⟨q,n0,rfl,rfl,hl⟩:=ED hi
    rw [show ((q:Int)).toNat=q from rfl,show ((n0:Int)).toNat=n0 from rfl,Ou]
    obtain ⟨av,ag1,ag2,ap1,ap2,ap3,gl,vl,dl,al⟩:=EY h
    have hVl:=h.1.2.2.2.2
    have hAl:=h.1.2.1
    have H:=hid h
    have e1:IntKind.i64.wrap ((q:Int)+n0)=(q:Int)+n0:=IntWalk.i64_in _ ω
    clear h hi ha hn
    go_enter Tryz.func44,Tryz.ntmps44
    go_wp2_with (first | (go_at_call 62;refine HW.out.mono ?_;rintro e w1 ⟨rfl,rfl⟩))
    go_loopw [8,9,10] (fun i _ _ wr=>∃ k:Nat,k≤M.A.length∧i=ν k∧MemR wr g v d a ⟨M.V,M.D,flT M fun i=>decide (i<k)&&inT q n0 64 (i / 8)⟩∧Turns (fun k=>k=a) w wr) (fun i _ _ _=>M.A.length-(intOf i).toNat)
    case atStart=>
      refine ⟨0,ω,rfl,?_,Turns.refl _ _⟩
      rw [CZ (f':=fun _=>false) (fun k _=>by simp),On]
      exact H.out
    case round=>
      obtain ⟨k,hk,rfl,hm,ht⟩:=hrel
      obtain ⟨c0,c1,c2⟩:=hm.cells
      simp only [FM] at c2
      by_cases hkl:k<M.A.length
      · have i1:(k:Int)<(M.A.length:Int):=ω
        have e2:IntKind.i64.wrap ((k:Int)+1)=(k:Int)+1:=IntWalk.i64_in _ ω
        have e3:(k:Int).tdiv 8=((k / 8:Nat):Int):=rfl
        have e4:IntKind.i64.wrap ((k / 8:Nat):Int)=((k / 8:Nat):Int):=IntWalk.i64_in _ ω
        have HM:=hid hm;have HT:=hid ht
        clear hm ht
        generalize hk8:k / 8=K at *
        have HK8:=hid hk8
        clear hk8
        go_wp2
        obtain ⟨wo,hwo⟩:∃ x,x=wr:=⟨_,rfl⟩
        subst hwo
        go_loopw [9,10] (fun b i wr=>∃ j:Nat,j≤n0∧i=ν (q+j:Nat)∧b=.bool (inT q j 64 K)∧wr=wo) (fun _ i _=>q+n0-(intOf i).toNat)
        case atStart=>exact ⟨0,ω,rfl,rfl,rfl⟩
        case round=>
          obtain ⟨j,hj,rfl,rfl,rfl⟩:=hrel
          have i0:((q+j:Nat):Int)=(q:Int)+j:=ω
          by_cases hjn:j<n0
          · have i3:((q+j:Nat):Int)<(q:Int)+n0:=ω
            have e5:IntKind.i64.wrap (((q+j:Nat):Int)+1)=((q+j:Nat):Int)+1:=IntWalk.i64_in _ ω
            have e6:((q+j:Nat):Int).tdiv 64=(((q+j) / 64:Nat):Int):=rfl
            have e7:IntKind.i64.wrap (((q+j) / 64:Nat):Int)=(((q+j) / 64:Nat):Int):=IntWalk.i64_in _ ω
            have hin:=Qg q j K
            have HIN:=hid hin
            clear hin i0
            generalize inT q j 64 K=bt at *
            generalize hQ:(q+j) / 64=Q at *
            generalize hKK:q+j=KK at *
            have HKK:=hid hKK
            clear hKK hQ
            cases bt
            · by_cases hc:Q=K
              · subst hc
                go_wp2
                go_roundw
                case rel=>have hK:=HKK.out;exact ⟨j+1,ω,by go_num,by rw [HIN.out];simp,trivial⟩
                case measure=>have hK:=HKK.out;simp [intOf];omega
              · have hcb:((Q:Int) == (K:Int))=false:=by simp;omega
                have HC:=hid hc
                clear hc
                go_wp2
                go_roundw
                case rel=>have hK:=HKK.out;exact ⟨j+1,ω,by go_num,by rw [HIN.out,show (Q == K)=false from by simpa using HC.out];rfl,trivial⟩
                case measure=>have hK:=HKK.out;simp [intOf];omega
            · go_wp2
              go_roundw
              case rel=>have hK:=HKK.out;exact ⟨j+1,ω,by go_num,by rw [HIN.out];rfl,trivial⟩
              case measure=>have hK:=HKK.out;simp [intOf];omega
          · obtain rfl:j=n0:=ω
            have HDT:=hid (Lj HM.out k (by show k<(flT _ _).length;rw [FM];exact hkl))
            clear i0
            have hset:=Rc M (fun i=>decide (i<k)&&inT q j 64 (i / 8)) k
            have hnot:=Rb M (fun i=>decide (i<k)&&inT q j 64 (i / 8)) k
            have hcon:inT q j 64 K=true→∀ i,(decide (i<k+1)&&inT q j 64 (i / 8))=((decide (i<k)&&inT q j 64 (i / 8))||i == k):=by
              intro hin i
              by_cases e:i=k
              · subst e;rw [HK8.out,hin];simp
              · rw [show (i == k)=false from by simpa using e,show decide (i<k+1)=decide (i<k) from by rw [decide_eq_decide];omega,Bool.or_false]
            have hcof:inT q j 64 K=false→∀ i,(decide (i<k+1)&&inT q j 64 (i / 8))=(decide (i<k)&&inT q j 64 (i / 8)):=by
              intro hin i
              by_cases e:i=k
              · subst e;rw [HK8.out,hin];simp
              · rw [show decide (i<k+1)=decide (i<k) from by rw [decide_eq_decide];omega]
            have HSET:=hid hset;have HNOT:=hid hnot;have HCT:=hid hcon;have HCF:=hid hcof
            clear hset hnot hcon hcof
            generalize hb:inT q j 64 K=bt at *
            cases bt
            · go_wp2
              go_roundw
              case rel=>
                refine ⟨k+1,ω,by go_num,?_,HT.out⟩
                rw [CZ (f':=fun i=>decide (i<k)&&inT q j 64 (i / 8)) (fun i _=>HCF.out rfl i)]
                exact HM.out
              case measure=>simp [intOf];omega
            · by_cases hd:BC M.V M.D k=true
              · have hD2:=HDT.out
                rw [show BC (⟨M.V,M.D,flT M fun i=>decide (i<k)&&inT q j 64 (i / 8)⟩:MemM).V (⟨M.V,M.D,flT M fun i=>decide (i<k)&&inT q j 64 (i / 8)⟩:MemM).D k=true from hd] at hD2
                have HD2:=hid hD2
                have HDD:=hid hd
                clear hD2 HDT hd
                go_wp2_with (first
                  | (go_at_call 59;refine HD2.out.mono ?_;rintro e w2 ⟨rfl,b2⟩;have B2:=hid b2;have M2:=hid (HM.out.mono b2);have p2:=M2.out.cells.2.2;simp only [FM] at p2;have pa:=Hm M2.out.2.2.2.2.2 (k:=k) (by show k<(flT _ _).length;rw [FM];exact hkl);have pf:=M2.out.2.2.2.2.2.frozen k;clear b2))
                go_roundw
                case rel=>
                  have t1:Turns (fun b=>b=a) w2 (w2.setCell ⟨a,k,none⟩ (.bool true)):=(Turns.refl (fun b=>b=a) w2).setCell (p:=⟨a,k,none⟩) rfl _
                  refine ⟨k+1,ω,by go_num,?_,(HT.out.trans (Turns.of_below B2.out)).trans t1⟩
                  have hA:=M2.out.2.2.2.2.2.set k (.bool true)
                  rw [← List.map_set,HSET.out HDD.out] at hA
                  rw [CZ (f':=fun i=>(decide (i<k)&&inT q j 64 (i / 8))||i == k) (fun i _=>HCT.out trivial i)]
                  exact M2.out.setD (t1.mono (fun _ q=>.inr q)) (t1.blk M2.out.2.2.2.2.1 ap3.symm) hA rfl (by simp [FM])
                case measure=>simp [intOf];omega
              · have hd':BC M.V M.D k=false:=by simpa using hd
                have hD2:=HDT.out
                rw [show BC (⟨M.V,M.D,flT M fun i=>decide (i<k)&&inT q j 64 (i / 8)⟩:MemM).V (⟨M.V,M.D,flT M fun i=>decide (i<k)&&inT q j 64 (i / 8)⟩:MemM).D k=false from hd'] at hD2
                have HD2:=hid hD2
                have HDD:=hid hd'
                clear hD2 HDT hd hd'
                go_wp2_with (first
                  | (go_at_call 59;refine HD2.out.mono ?_;rintro e w2 ⟨rfl,b2⟩;have B2:=hid b2;have M2:=hid (HM.out.mono b2);clear b2))
                go_roundw
                case rel=>
                  refine ⟨k+1,ω,by go_num,?_,HT.out.trans (Turns.of_below B2.out)⟩
                  rw [CZ (f':=fun i=>(decide (i<k)&&inT q j 64 (i / 8))||i == k) (fun i _=>HCT.out trivial i),← HNOT.out HDD.out]
                  exact M2.out
                case measure=>simp [intOf];omega
      · obtain rfl:k=M.A.length:=ω
        rw [CZ (f':=fun i=>inT q n0 64 (i / 8)) (fun i hi=>by simp [hi])] at hm
        have HM:=hid hm;have HT:=hid ht
        clear hm ht
        go_wp2
        go_ret
        exact ⟨rfl,HM.out,HT.out⟩
  · have hE:JN g v d a M at_ n w=fun e w'=>e=.returned (ν 1)∧w=w':=by
      funext e w';unfold JN;rw [if_neg hi]
    rw [hE]
    rw [show inM M at_ n=false by simpa using hi] at HW
    clear hE hi h
    go_enter Tryz.func44,Tryz.ntmps44
    go_wp2_with (first | (go_at_call 62;refine HW.out.mono ?_;rintro e w1 ⟨rfl,rfl⟩))
    go_ret
    exact ⟨rfl,rfl⟩
theorem NH (V X:List UInt8) (j:Nat) (hX:j<X.length) (hV:X.length=V.length) :
    ((splice V 0 (X.take j)).map Ap).set j (.int .u8 (bAt X j:Int))=(splice V 0 (X.take (j+1))).map Ap:=by
  have:=JE V X 0 j hX ω
  rwa [Nat.zero_add] at this
theorem PE {w:World} {g v d a:Nat} {M:MemM} (h:MemR w g v d a M) (picks:List Int) (ap:Option Addr) (cp:Nat) (hr:GB w ap cp picks) (hok:Ga picks) (hs:0<picks.length→∀ b,(∃ off,ap=some ⟨b,off,none⟩)→b≠d∧b≠a) :
    Calls Tryz.prog 24 #[π g,.slice ap picks.length cp] w fun e w'=>(∃ x,e=.returned x)∧MemR w' g v d a (DY M picks)∧Turns (fun b=>b=v∨b=d∨b=a) w w':=by
  obtain ⟨av,ag1,ag2,ap1,ap2,ap3,gl,vl,dl,al⟩:=EY h
  have HDA:=hid (Me h)
  have HH:=hid h
  have HR:=hid hr
  have hpl:=Pc hr
  have hVl:=h.1.2.2.2.2
  have hAl:=h.1.2.1
  have hLlt:∀ k∈BP M,k<M.A.length:=Mp
  have hLlen:(BP M).length≤200000:=by
    have:(BP M).length≤M.A.length:=GR M.V M.D M.A.length
    omega
  have hE:DY M picks=⟨Dc (ET (BP M) picks (BP M).length) M.V M.D,Dc (ET (BP M) picks (BP M).length) M.V M.D,Ca M.A.length fun _=>false⟩:=rfl
  rw [hE]
  clear hE h hr
  generalize BP M=L at *
  have HLT:=hid hLlt
  clear hLlt
  go_enter Tryz.func24,Tryz.ntmps24
  go_wp2_with (go_at_call 38;refine HDA.out.mono ?_;rintro e w1 ⟨al',cl,rfl,ol,b1⟩;have OL:=hid ol;have B1:=hid b1;clear ol b1)
  have M1:=hid (HH.out.mono B1.out)
  go_loopw [5,6] (fun i _ wr=>∃ (j:Nat) (A':List Bool),j≤L.length∧j≤picks.length∧i=ν j∧A'.length=M.A.length∧MemR wr g v d a ⟨M.V,Dc (ET L picks j) M.V M.D,A'⟩∧Turns (fun b=>b=d∨b=a) w1 wr) (fun i _ _=>L.length-(intOf i).toNat)
  case atStart=>
    refine ⟨0,M.A,ω,ω,rfl,rfl,?_,Turns.refl _ _⟩
    rw [Bl (g:=fun _=>false) (fun k _=>MI _ _ _),In]
    exact M1.out
  case round=>
    obtain ⟨j,A',hj,hj2,rfl,hA',hm,ht⟩:=hrel
    obtain ⟨k0,k1,k2⟩:=hm.cells
    simp only [hA'] at k2
    by_cases hlt:j<L.length∧j<picks.length
    · obtain ⟨hlt,hp⟩:=hlt
      obtain ⟨bl,rfl,hbl,cl0⟩:=MC (ht.own OL.out (fun k q=>ω)) hlt
      have hLm:L.getD j 0∈L:=by simp [hlt]
      have hq:=HLT.out _ hLm
      have HP:=hid (Mz hm (L.getD j 0) (by show _<A'.length;rw [hA'];exact hq))
      have hsel:=Ke L picks j
      have HSE:=hid hsel
      have i1:(j:Int)<(L.length:Int):=ω
      have i2:IntKind.i64.wrap ((j:Int)+1)=(j:Int)+1:=IntWalk.i64_in _ ω
      have rp:GB wr ap cp picks:=ht.row (HR.out.mono B1.out) (fun hn k hk=>by have:=hs hn k hk;omega)
      obtain ⟨bp,op,rfl,hbp,cp0⟩:=LF rp ω
      have cpj:=cp0 j hp
      have hO:=hok (picks.getD j 0) (by simp [hp])
      have hPB:IF picks j=IC (picks.getD j 0):=by unfold IF;rw [decide_eq_true hp];simp
      have i3:(j:Int)<(picks.length:Int):=ω
      have HM:=hid hm;have HT:=hid ht;have HA':=hid hA'
      clear hm ht hsel hLm rp cp0 hA'
      generalize hx:L.getD j 0=x at *
      generalize picks.getD j 0=y at *
      have hfin:∀ (w2:World) (odd:Bool),IC y=odd→(odd=true→∃ A'',A''.length=M.A.length∧MemR w2 g v d a ⟨M.V,Dc (fun i=>i == x) M.V (Dc (ET L picks j) M.V M.D),A''⟩)→(odd=false→w2=wr)→∃ A'',A''.length=M.A.length∧MemR w2 g v d a ⟨M.V,Dc (ET L picks (j+1)) M.V M.D,A''⟩:=by
        intro w2 odd ho h1 h2
        cases odd
        · rw [h2 rfl]
          refine ⟨A',HA'.out,?_⟩
          rw [Bl (g:=ET L picks j) (fun i _=>by rw [HSE.out,hPB,ho];simp)]
          exact HM.out
        · obtain ⟨A'',q1,q2⟩:=h1 rfl
          refine ⟨A'',q1,?_⟩
          rw [Io] at q2
          rw [Bl (g:=fun i=>ET L picks j i||i == x) (fun i _=>by rw [HSE.out,hPB,ho,Bool.and_true,show (x == i)=(i == x) from BEq.comm])]
          exact q2
      have HF:=hid hfin
      clear hfin hPB hx
      by_cases hneg:y<0
      · have e1:IntKind.i64.wrap (y+1)=y+1:=IntWalk.i64_in _ ω
        have e2:IntKind.i64.wrap (-(y+1))=-(y+1):=IntWalk.i64_in _ ω
        have hod:IC y=decide (-(y+1) % 2=1):=by unfold IC;rw [if_pos hneg]
        have e3:-((y+1).tmod 2)=-(y+1) % 2:=by rw [← Int.neg_tmod];exact Int.tmod_eq_emod_of_nonneg ω
        have hb:0≤-(y+1) % 2∧-(y+1) % 2<2:=ω
        have dk:decide (y<0)=true:=decide_eq_true hneg
        by_cases ho:-(y+1) % 2=1
        · have e4:((-((y+1).tmod 2)) == 1)=true:=by rw [e3,ho];rfl
          have e5:IntKind.i64.wrap (-((y+1).tmod 2))=-((y+1).tmod 2):=by rw [e3];exact IntWalk.i64_in _ ω
          have HOD:=hid (show IC y=true by rw [hod,decide_eq_true ho])
          clear hod e3 ho hb
          go_wp2_with (first
            | (go_at_call 39;refine HP.out.mono ?_;rintro e w2 ⟨⟨z,rfl⟩,m2,t2⟩;have M2:=hid m2;have T2:=hid t2;clear m2 t2))
          go_roundw
          case rel=>
            obtain ⟨A'',q1,q2⟩:=HF.out w2 true HOD.out (fun _=>⟨_,by rw [List.length_set];exact HA'.out,M2.out⟩) (fun q=>by cases q)
            exact ⟨j+1,A'',ω,ω,by go_num,q1,q2,HT.out.trans T2.out⟩
          case measure=>simp [intOf];omega
        · have e4:((-((y+1).tmod 2)) == 1)=false:=by rw [e3];simpa using ho
          have e5:IntKind.i64.wrap (-((y+1).tmod 2))=-((y+1).tmod 2):=by rw [e3];exact IntWalk.i64_in _ ω
          have HOD:=hid (show IC y=false by rw [hod,decide_eq_false ho])
          clear hod e3 ho hb
          go_wp2
          go_roundw
          case rel=>
            obtain ⟨A'',q1,q2⟩:=HF.out wr false HOD.out (fun q=>by cases q) (fun _=>rfl)
            exact ⟨j+1,A'',ω,ω,by go_num,q1,q2,HT.out⟩
          case measure=>simp [intOf];omega
      · have hod:IC y=decide (y % 2=1):=by unfold IC;rw [if_neg hneg]
        have e3:y.tmod 2=y % 2:=Int.tmod_eq_emod_of_nonneg ω
        have hb:0≤y % 2∧y % 2<2:=ω
        have dk:decide (y<0)=false:=decide_eq_false hneg
        generalize y % 2=r at *
        by_cases ho:r=1
        · subst ho
          have e5:IntKind.i64.wrap 1=1:=rfl
          have HOD:=hid (show IC y=true by rw [hod];rfl)
          clear hod hb
          go_wp2_with (first
            | (go_at_call 39;refine HP.out.mono ?_;rintro e w2 ⟨⟨z,rfl⟩,m2,t2⟩;have M2:=hid m2;have T2:=hid t2;clear m2 t2))
          go_roundw
          case rel=>
            obtain ⟨A'',q1,q2⟩:=HF.out w2 true HOD.out (fun _=>⟨_,by rw [List.length_set];exact HA'.out,M2.out⟩) (fun q=>by cases q)
            exact ⟨j+1,A'',ω,ω,by go_num,q1,q2,HT.out.trans T2.out⟩
          case measure=>simp [intOf];omega
        · have e4:(r == 1)=false:=by simpa using ho
          have e5:IntKind.i64.wrap r=r:=IntWalk.i64_in _ ω
          have HOD:=hid (show IC y=false by rw [hod,decide_eq_false ho])
          clear hod ho hb
          go_wp2
          go_roundw
          case rel=>
            obtain ⟨A'',q1,q2⟩:=HF.out wr false HOD.out (fun q=>by cases q) (fun _=>rfl)
            exact ⟨j+1,A'',ω,ω,by go_num,q1,q2,HT.out⟩
          case measure=>simp [intOf];omega
    · have hX:Dc (ET L picks j) M.V M.D=Dc (ET L picks L.length) M.V M.D:=by
        rcases (ω:picks.length≤j∨j=L.length) with q | q
        · exact Bl fun k _=>(SC q _ hj k).symm
        · rw [q]
      rw [hX] at hm
      clear hX
      generalize hXX:Dc (ET L picks L.length) M.V M.D=X at *
      have HXX:=hid hXX
      clear hXX
      have hXl:X.length=M.V.length:=hm.1.1
      have HM:=hid hm;have HT:=hid ht;have HA':=hid hA';have HXL:=hid hXl
      have hst:=fun i (hi:i<X.length)=>NH M.V X i hi hXl
      have HST:=hid hst
      have i2:((j:Int)<(L.length:Int))∨¬ ((j:Int)<(L.length:Int)):=Classical.em _
      have i4:((j:Int)<(L.length:Int))→¬ ((j:Int)<(picks.length:Int)):=ω
      clear hm ht hA' hXl hst hlt
      rcases i2 with i1 | i1
      · have i3:=i4 i1
        clear i4
        obtain ⟨wo,hwo⟩:∃ x,x=wr:=⟨_,rfl⟩
        subst hwo
        go_wp2
        go_loopw [7] (fun i wz=>∃ t:Nat,t≤X.length∧i=ν t∧Blk wz v 5 ((splice M.V 0 (X.take t)).map Ap)∧Turns (fun b=>b=v) wo wz) (fun i _=>X.length-(intOf i).toNat)
        case atStart=>exact ⟨0,ω,rfl,by simpa [splice] using HM.out.2.2.2.1,Turns.refl _ _⟩
        case round=>
          obtain ⟨t,ht,rfl,hv,htt⟩:=hrel
          have hg:=htt.blk HM.out.2.2.1 ag1
          have hd:=htt.blk HM.out.2.2.2.2.1 av.symm
          have z0:wr.cell? ⟨g,0,none⟩=some (.slice (some ⟨v,0,none⟩) M.V.length M.V.length):=hg.cell (i:=0) (by simp)
          have z1:wr.cell? ⟨g,1,none⟩=some (.slice (some ⟨d,0,none⟩) M.V.length M.V.length):=hg.cell (i:=1) (by simp)
          by_cases htl:t<X.length
          · have hxl:=HXL.out
            have hlen:(splice M.V 0 (X.take t)).length=M.V.length:=length_splice _ _ _ (by simp;omega)
            have cv:=DV hv (i:=t) ω
            have fv:=hv.frozen t
            have cd:=DV hd (i:=t) htl
            have j1:(t:Int)<(M.V.length:Int):=ω
            have j2:t<M.V.length:=ω
            have j3:IntKind.i64.wrap ((t:Int)+1)=(t:Int)+1:=IntWalk.i64_in _ ω
            have hnew:=hv.set t (.int .u8 (bAt X t:Int))
            rw [HST.out t htl] at hnew
            have HB:=hid hnew;have HTT:=hid htt
            clear hv hg hd htt hlen hnew hxl
            generalize bAt X t=x at *
            go_wp2_with fail
            go_region
            all_goals
              go_wp2
              go_roundw
              case rel=>exact ⟨t+1,ω,by go_num,HB.out,(HTT.out.setCell (p:=⟨v,t,none⟩) rfl _).drew⟩
              case measure=>simp [intOf];omega
          · obtain rfl:t=X.length:=ω
            have j1:¬ ((X.length:Int)<(M.V.length:Int)):=by have:=HXL.out;omega
            rw [List.take_length,Cz HXL.out.symm] at hv
            have ha2:=htt.blk HM.out.2.2.2.2.2 ap2
            have HV:=hid hv;have HG:=hid hg;have HD:=hid hd;have HTT:=hid htt;have HA2:=hid ha2
            clear hv hg hd htt ha2 ht htl
            obtain ⟨w5,hw5⟩:∃ x,x=wr:=⟨_,rfl⟩
            subst hw5
            go_wp2
            go_loopw [8] (fun i wz=>∃ t:Nat,t≤M.A.length∧i=ν t∧Blk wz a 4 ((Ca M.A.length fun i=>!decide (i<t)&&A'.getD i false).map .bool)∧Turns (fun b=>b=a) w5 wz) (fun i _=>M.A.length-(intOf i).toNat)
            case atStart=>
              refine ⟨0,ω,rfl,?_,Turns.refl _ _⟩
              rw [Bf (g:=fun k=>A'.getD k false) (fun k _=>by simp),← HA'.out,Gx]
              exact HA2.out
            case round=>
              obtain ⟨t,ht,rfl,ha,htt⟩:=hrel
              have hg:=htt.blk HG.out ap1.symm
              have z2:wr.cell? ⟨g,2,none⟩=some (.slice (some ⟨a,0,none⟩) M.A.length M.A.length):=by
                have:wr.cell? ⟨g,2,none⟩=some (.slice (some ⟨a,0,none⟩) A'.length A'.length):=hg.cell (i:=2) (by simp)
                rw [HA'.out] at this;exact this
              by_cases htl:t<M.A.length
              · have ca:=Hm ha (k:=t) (by rw [Bv];exact htl)
                have fa:=ha.frozen t
                have j1:(t:Int)<(M.A.length:Int):=ω
                have j3:IntKind.i64.wrap ((t:Int)+1)=(t:Int)+1:=IntWalk.i64_in _ ω
                have hnA:=ha.set t (.bool false)
                rw [← List.map_set,Ic] at hnA
                have HB:=hid hnA;have HT5:=hid htt
                clear ha hg htt hnA
                go_wp2
                go_roundw
                case rel=>
                  refine ⟨t+1,ω,by go_num,?_,HT5.out.setCell (p:=⟨a,t,none⟩) rfl _⟩
                  rw [Bf (g:=fun i=>if i=t then false else !decide (i<t)&&A'.getD i false) (fun i _=>?_)]
                  · exact HB.out
                  · by_cases e:i=t
                    · subst e;simp
                    · rw [if_neg e,show decide (i<t+1)=decide (i<t) from by rw [decide_eq_decide];omega]
                case measure=>simp [intOf];omega
              · obtain rfl:t=M.A.length:=ω
                rw [Bf (g:=fun _=>false) (fun i hi=>by simp [hi])] at ha
                have HA5:=hid ha;have HT5:=hid htt;have HG5:=hid hg
                clear ha hg htt ht htl
                go_wp2
                go_end0
                obtain ⟨l1,l2,l3,l4,l5⟩:=HH.out.1
                have hx:=HXL.out
                rw [HXX.out]
                refine ⟨⟨_,rfl⟩,⟨⟨rfl,by show (Ca _ _).length*8=X.length;rw [Bv,hx];exact l2,by show X.length % 64=0;rw [hx];exact l3,by show 64≤X.length;rw [hx];exact l4,by show X.length≤1048576;rw [hx];exact l5⟩,av,?_,HT5.out.blk HV.out ap2.symm,HT5.out.blk HD.out ap3.symm,HA5.out⟩,
                  (((Turns.of_below B1.out).trans (HT.out.mono (fun _ q=>.inr q))).trans (HTT.out.mono (fun _ q=>.inl q))).trans (HT5.out.mono (fun _ q=>.inr (.inr q)))⟩
                have:=HG5.out
                rw [HA'.out,← hx] at this
                show Blk _ g _ [.slice (some ⟨v,0,none⟩) X.length X.length,.slice (some ⟨d,0,none⟩) X.length X.length,.slice (some ⟨a,0,none⟩) (Ca _ _).length (Ca _ _).length]
                rw [Bv]
                exact this
      · clear i4
        obtain ⟨wo,hwo⟩:∃ x,x=wr:=⟨_,rfl⟩
        subst hwo
        go_wp2
        go_loopw [7] (fun i wz=>∃ t:Nat,t≤X.length∧i=ν t∧Blk wz v 5 ((splice M.V 0 (X.take t)).map Ap)∧Turns (fun b=>b=v) wo wz) (fun i _=>X.length-(intOf i).toNat)
        case atStart=>exact ⟨0,ω,rfl,by simpa [splice] using HM.out.2.2.2.1,Turns.refl _ _⟩
        case round=>
          obtain ⟨t,ht,rfl,hv,htt⟩:=hrel
          have hg:=htt.blk HM.out.2.2.1 ag1
          have hd:=htt.blk HM.out.2.2.2.2.1 av.symm
          have z0:wr.cell? ⟨g,0,none⟩=some (.slice (some ⟨v,0,none⟩) M.V.length M.V.length):=hg.cell (i:=0) (by simp)
          have z1:wr.cell? ⟨g,1,none⟩=some (.slice (some ⟨d,0,none⟩) M.V.length M.V.length):=hg.cell (i:=1) (by simp)
          by_cases htl:t<X.length
          · have hxl:=HXL.out
            have hlen:(splice M.V 0 (X.take t)).length=M.V.length:=length_splice _ _ _ (by simp;omega)
            have cv:=DV hv (i:=t) ω
            have fv:=hv.frozen t
            have cd:=DV hd (i:=t) htl
            have j1:(t:Int)<(M.V.length:Int):=ω
            have j2:t<M.V.length:=ω
            have j3:IntKind.i64.wrap ((t:Int)+1)=(t:Int)+1:=IntWalk.i64_in _ ω
            have hnew:=hv.set t (.int .u8 (bAt X t:Int))
            rw [HST.out t htl] at hnew
            have HB:=hid hnew;have HTT:=hid htt
            clear hv hg hd htt hlen hnew hxl
            generalize bAt X t=x at *
            go_wp2_with fail
            go_region
            all_goals
              go_wp2
              go_roundw
              case rel=>exact ⟨t+1,ω,by go_num,HB.out,(HTT.out.setCell (p:=⟨v,t,none⟩) rfl _).drew⟩
              case measure=>simp [intOf];omega
          · obtain rfl:t=X.length:=ω
            have j1:¬ ((X.length:Int)<(M.V.length:Int)):=by have:=HXL.out;omega
            rw [List.take_length,Cz HXL.out.symm] at hv
            have ha2:=htt.blk HM.out.2.2.2.2.2 ap2
            have HV:=hid hv;have HG:=hid hg;have HD:=hid hd;have HTT:=hid htt;have HA2:=hid ha2
            clear hv hg hd htt ha2 ht htl
            obtain ⟨w5,hw5⟩:∃ x,x=wr:=⟨_,rfl⟩
            subst hw5
            go_wp2
            go_loopw [8] (fun i wz=>∃ t:Nat,t≤M.A.length∧i=ν t∧Blk wz a 4 ((Ca M.A.length fun i=>!decide (i<t)&&A'.getD i false).map .bool)∧Turns (fun b=>b=a) w5 wz) (fun i _=>M.A.length-(intOf i).toNat)
            case atStart=>
              refine ⟨0,ω,rfl,?_,Turns.refl _ _⟩
              rw [Bf (g:=fun k=>A'.getD k false) (fun k _=>by simp),← HA'.out,Gx]
              exact HA2.out
            case round=>
              obtain ⟨t,ht,rfl,ha,htt⟩:=hrel
              have hg:=htt.blk HG.out ap1.symm
              have z2:wr.cell? ⟨g,2,none⟩=some (.slice (some ⟨a,0,none⟩) M.A.length M.A.length):=by
                have:wr.cell? ⟨g,2,none⟩=some (.slice (some ⟨a,0,none⟩) A'.length A'.length):=hg.cell (i:=2) (by simp)
                rw [HA'.out] at this;exact this
              by_cases htl:t<M.A.length
              · have ca:=Hm ha (k:=t) (by rw [Bv];exact htl)
                have fa:=ha.frozen t
                have j1:(t:Int)<(M.A.length:Int):=ω
                have j3:IntKind.i64.wrap ((t:Int)+1)=(t:Int)+1:=IntWalk.i64_in _ ω
                have hnA:=ha.set t (.bool false)
                rw [← List.map_set,Ic] at hnA
                have HB:=hid hnA;have HT5:=hid htt
                clear ha hg htt hnA
                go_wp2
                go_roundw
                case rel=>
                  refine ⟨t+1,ω,by go_num,?_,HT5.out.setCell (p:=⟨a,t,none⟩) rfl _⟩
                  rw [Bf (g:=fun i=>if i=t then false else !decide (i<t)&&A'.getD i false) (fun i _=>?_)]
                  · exact HB.out
                  · by_cases e:i=t
                    · subst e;simp
                    · rw [if_neg e,show decide (i<t+1)=decide (i<t) from by rw [decide_eq_decide];omega]
                case measure=>simp [intOf];omega
              · obtain rfl:t=M.A.length:=ω
                rw [Bf (g:=fun _=>false) (fun i hi=>by simp [hi])] at ha
                have HA5:=hid ha;have HT5:=hid htt;have HG5:=hid hg
                clear ha hg htt ht htl
                go_wp2
                go_end0
                obtain ⟨l1,l2,l3,l4,l5⟩:=HH.out.1
                have hx:=HXL.out
                rw [HXX.out]
                refine ⟨⟨_,rfl⟩,⟨⟨rfl,by show (Ca _ _).length*8=X.length;rw [Bv,hx];exact l2,by show X.length % 64=0;rw [hx];exact l3,by show 64≤X.length;rw [hx];exact l4,by show X.length≤1048576;rw [hx];exact l5⟩,av,?_,HT5.out.blk HV.out ap2.symm,HT5.out.blk HD.out ap3.symm,HA5.out⟩,
                  (((Turns.of_below B1.out).trans (HT.out.mono (fun _ q=>.inr q))).trans (HTT.out.mono (fun _ q=>.inl q))).trans (HT5.out.mono (fun _ q=>.inr (.inr q)))⟩
                have:=HG5.out
                rw [HA'.out,← hx] at this
                show Blk _ g _ [.slice (some ⟨v,0,none⟩) X.length X.length,.slice (some ⟨d,0,none⟩) X.length X.length,.slice (some ⟨a,0,none⟩) (Ca _ _).length (Ca _ _).length]
                rw [Bv]
                exact this
end
section
attribute [local go_sem] Oper.semAt_some
def CP (kd T sz:Int) (c:Nat):List PartT:=(List.range c).map fun (j:Nat)=>⟨kd,(j:Int)+1,T+(j:Int)*sz,sz⟩
theorem EZ (kd T sz:Int) (c:Nat):CP kd T sz (c+1)=CP kd T sz c++[⟨kd,(c:Int)+1,T+(c:Int)*sz,sz⟩]:=by
  unfold CP;rw [List.range_succ,List.map_append];rfl
theorem Eb (kd T sz:Int) (c:Nat):(CP kd T sz c).length=c:=by simp [CP]
theorem EI (kd T sz:Int) {a c:Nat} (h:a≤c):CP kd T sz a <+: CP kd T sz c:=by
  obtain ⟨d,rfl⟩:∃ d,c=a+d:=⟨c-a,ω⟩
  unfold CP
  rw [List.range_add,List.map_append]
  exact List.prefix_append _ _
theorem Wy (F:Fence) (hd:F.depth=none) (hF:F.fn 65) (hF2:F.fn 66) (hro:F.round=none) (l B N A Y V:Nat) (Sp:List PartT→Prop) (J Jx:List PartT→World→Prop) (hJ:StabC B J) (hY:MV F l B N Sp J Jx) (hA:B≤A) (hB:B≤Y) (hV:B≤V) (hne:Y≠A) (hneV:V≠A)
    (n:Nat) (pre:List PartT) (kd T sz:Int) (c:Nat) (W:World) (hAc:Blk W A 3 [ν T]) (hYc:Blk W Y 118 [.func (.yield l) #[] #[]])
    (hVc:Blk W V 96 [.func (.func 65) #[] #[π A,π Y]]) (h0:J pre W) (hlen:pre.length+c≤N) (hsp:∀ j,j<c→Sp (pre++CP kd T sz j++[⟨kd,(j:Int)+1,T+(j:Int)*sz,sz⟩]))
    (hT:0≤T) (hTc:T+(c:Int)*sz≤1000000000) (hs:0≤sz) (hs2:sz≤1000000000) (hc:c≤1000) :
    CallsIn F n Tryz.prog 66 #[ν kd,ν c,ν sz,π V] W fun e W'=>
      (e=.returned (.bool true)∧J (pre++CP kd T sz c) W'∧Blk W' A 3 [ν (T+(c:Int)*sz)]∧KeepBut B A W W')∨(e=.returned (.bool false)∧∃ q,q <+: CP kd T sz c∧Jx (pre++q) W'):=by
  have hdd:∀ k:Nat,(F.depth.isSome=true→1≤k):=fun k h=>by rw [hd] at h;cases h
  have HJ:=hid hJ;have HY:=hid hY;have H0:=hid h0;have HAC:=hid hAc;have HYC:=hid hYc;have HVC:=hid hVc
  have HSP:=hid hsp
  clear hJ hY h0 hAc hYc hVc hsp
  refine callsIn_of_wp Tryz.func66 rfl hF2 ?_ hro
  simp only [Tryz.ntmps66,List.size_toArray,List.length_cons,List.length_nil,Nat.reduceAdd,Nat.reduceSub,Array.replicate_succ,Array.replicate_zero,List.push_toArray,List.append_toArray,List.nil_append,List.cons_append]
  gi_wp2
  gi_loopw [8,10] (fun _ i wr=>∃ (j:Nat) (U:Int),j≤c∧i=ν j∧U=T+(j:Int)*sz∧J (pre++CP kd T sz j) wr∧Blk wr A 3 [ν U]∧KeepBut B A W wr) (fun _ i _=>c-(intOf i).toNat)
  case atStart=>exact ⟨0,T,ω,rfl,by simp,by simpa [CP] using H0.out,HAC.out,KeepBut.refl _ _ _⟩
  case round=>
    obtain ⟨j,U,hj,rfl,hU,hJw,hAw,hKw⟩:=hrel
    have HU:=hid hU;have HJW:=hid hJw;have HAW:=hid hAw;have HKW:=hid hKw
    by_cases hjc:j<c
    · have hm:(j:Int)*sz≤(c:Int)*sz:=Int.mul_le_mul_of_nonneg_right ω hs
      have hm0:0≤(j:Int)*sz:=Int.mul_nonneg ω hs
      have hU0:0≤U:=ω
      have hU2:U≤1000000000:=ω
      have v0:wr.cell? ⟨V,0,none⟩=some (.func (.func 65) #[] #[π A,π Y]):=(hKw.blk hV hneV HVC.out).cell (i:=0) (by simp)
      have hv:=Px F hd hF hro l B N A Y Sp J Jx HJ.out HY.out hA hB hne (n-1) (pre++CP kd T sz j) kd ((j:Int)+1) U sz wr hAw (hKw.blk hB hne HYC.out) hJw (by rw [List.length_append,Eb];omega) (by rw [hU];exact HSP.out j hjc) hU0 hU2 hs hs2
      have hv':=hid hv
      have dj:decide ((j:Int)<(c:Int))=true:=decide_eq_true ω
      have ij:(j:Int)<(c:Int):=ω
      clear hU hJw hAw hKw hm hm0 hv
      gi_wp2_with ((try refine ⟨hdd _,?_⟩);gi_at_call 65;refine hv'.out.mono ?_;clear hv';rintro e W1 (⟨rfl,hJ1,hA1,hK1⟩ | ⟨rfl,hx1⟩);have HJ1:=hid hJ1;have HA1:=hid hA1;have HK1:=hid hK1;clear hJ1 hA1 hK1)
      · go_roundw
        case rel=>exact ⟨j+1,U+sz,ω,by go_num,by rw [HU.out];simp only [Int.natCast_add,Int.add_mul];omega,by rw [EZ,← List.append_assoc,← HU.out];exact HJ1.out,HA1.out,HKW.out.trans HK1.out⟩
        case measure=>simp [intOf];omega
      · go_ret
        refine .inr ⟨rfl,CP kd T sz (j+1),EI _ _ _ ω,?_⟩
        rw [EZ,← List.append_assoc,← HU.out]
        exact hx1
    · obtain rfl:j=c:=ω
      clear hU hJw hAw hKw
      gi_wp2
      go_ret
      exact .inl ⟨rfl,HJW.out,by rw [← HU.out];exact HAW.out,HKW.out⟩
end
section
attribute [local go_sem] Oper.semAt_some
def AK:List PartT:=[]++[⟨1,0,0,64⟩]++CP 2 64 64 8++[⟨3,0,576,64⟩]++CP 4 640 64 32++[⟨5,0,2688,4096⟩]++CP 6 6784 1024 8++CP 7 14976 64 128
theorem Dv {F:Fence} {p:Prop} (h:p):(∀ f,(none:Option FuncId)=some f→F.fn f)∧p:=⟨fun _ h=>(by cases h),h⟩
theorem Kb (F:Fence) (hd:F.depth=none) (hF0:F.fn 48) (hF:F.fn 65) (hF2:F.fn 66) (hro:F.round=none) (n:Nat) (w0:World) :
    WD F n Tryz.prog 48 #[] (fun p:PartT=>#[JA p]) (fun xs=>xs=AK) (fun q=>q <+: AK) 179 w0:=by
  intro l J Jx W hW hJ hJx hY0 h0
  have hdd:∀ k:Nat,(F.depth.isSome=true→1≤k):=fun k h=>by rw [hd] at h;cases h
  have hY:MV F l W.heap.size 179 (fun q=>q <+: AK) J Jx:=fun m pre x W1 a b c=>JL hd m (hY0 pre x W1 a b c)
  have b0:Below W.heap.size W (((W.alloc (.cells #[.func (.yield l) #[] #[]] 118)).alloc (.cells #[ν 0] 3)).alloc (.cells #[.func (.func 65) #[] #[π (W.heap.size+1),π W.heap.size]] 96)):=((((Below.refl _ W).alloc (Nat.le_refl _) _).alloc (by simp) _).alloc (by simp;omega) _)
  have hJ0:J [] (((W.alloc (.cells #[.func (.yield l) #[] #[]] 118)).alloc (.cells #[ν 0] 3)).alloc (.cells #[.func (.func 65) #[] #[π (W.heap.size+1),π W.heap.size]] 96)):=hJ _ _ _ h0 b0
  have hYc:Blk (((W.alloc (.cells #[.func (.yield l) #[] #[]] 118)).alloc (.cells #[ν 0] 3)).alloc (.cells #[.func (.func 65) #[] #[π (W.heap.size+1),π W.heap.size]] 96)) W.heap.size 118 [.func (.yield l) #[] #[]]:=(Blk.mono (w:=(W.alloc (.cells #[.func (.yield l) #[] #[]] 118))) (heap_alloc_new W _) ((((Below.refl _ _).alloc (Nat.le_refl _) _).alloc (by simp) _)))
  have hAc:Blk (((W.alloc (.cells #[.func (.yield l) #[] #[]] 118)).alloc (.cells #[ν 0] 3)).alloc (.cells #[.func (.func 65) #[] #[π (W.heap.size+1),π W.heap.size]] 96)) (W.heap.size+1) 3 [ν 0]:=by
    have q:Blk ((W.alloc (.cells #[.func (.yield l) #[] #[]] 118)).alloc (.cells #[ν 0] 3)) (W.heap.size+1) 3 [ν 0]:=by
      have q:=heap_alloc_new (W.alloc (.cells #[.func (.yield l) #[] #[]] 118)) (.cells #[ν 0] 3)
      rw [show ((W.alloc (.cells #[.func (.yield l) #[] #[]] 118))).heap.size=W.heap.size+1 from by simp] at q;exact q
    exact q.mono ((Below.refl _ _).alloc (Nat.le_refl _) _)
  have hVc:Blk (((W.alloc (.cells #[.func (.yield l) #[] #[]] 118)).alloc (.cells #[ν 0] 3)).alloc (.cells #[.func (.func 65) #[] #[π (W.heap.size+1),π W.heap.size]] 96)) (W.heap.size+1+1) 96 [.func (.func 65) #[] #[π (W.heap.size+1),π W.heap.size]]:=by
    have q:=heap_alloc_new ((W.alloc (.cells #[.func (.yield l) #[] #[]] 118)).alloc (.cells #[ν 0] 3)) (.cells #[.func (.func 65) #[] #[π (W.heap.size+1),π W.heap.size]] 96)
    rw [show (((W.alloc (.cells #[.func (.yield l) #[] #[]] 118)).alloc (.cells #[ν 0] 3))).heap.size=W.heap.size+1+1 from by simp] at q;exact q
  have HJ:=hid hJ;have HY:=hid hY;have HJ0:=hid hJ0;have HYC:=hid hYc;have HA0:=hid hAc;have HVC:=hid hVc
  have v0:((((W.alloc (.cells #[.func (.yield l) #[] #[]] 118)).alloc (.cells #[ν 0] 3)).alloc (.cells #[.func (.func 65) #[] #[π (W.heap.size+1),π W.heap.size]] 96))).cell? ⟨W.heap.size+1+1,0,none⟩=some (.func (.func 65) #[] #[π (W.heap.size+1),π W.heap.size]):=hVc.cell (i:=0) (by simp)
  have HV:=hid (Px F hd hF hro l W.heap.size 179 (W.heap.size+1) W.heap.size (fun q=>q <+: AK) J Jx hJ hY ω ω ω)
  have HR:=hid (Wy F hd hF hF2 hro l W.heap.size 179 (W.heap.size+1) W.heap.size (W.heap.size+1+1) (fun q=>q <+: AK) J Jx hJ hY ω ω ω ω ω)
  have hl:∀ (kd T sz:Int) (c:Nat),(CP kd T sz c).length=c:=Eb
  clear hJ hY hJ0 hYc hAc hVc h0 hY0 hW b0
  have HL:=hid hl;clear hl
  refine callsIn_of_wp Tryz.func48 rfl hF0 ?_ hro
  simp only [Tryz.ntmps48,List.size_toArray,List.length_cons,List.length_nil,Nat.reduceAdd,Nat.reduceSub,Array.replicate_succ,Array.replicate_zero,List.push_toArray,List.append_toArray,List.nil_append,List.cons_append]
  gi_wp2
  have hc:=HV.out (n-1) ([]) 1 0 0 64 _ HA0.out HYC.out HJ0.out (by simp [Eb]) (by unfold AK;exact (List.prefix_append _ _).trans ((List.prefix_append _ _).trans ((List.prefix_append _ _).trans ((List.prefix_append _ _).trans ((List.prefix_append _ _).trans ((List.prefix_append _ _).trans (List.prefix_refl _))))))) ω ω ω ω
  have HC:=hid hc
  clear hc
  refine HC.out.mono ?_
  rintro e W1 (⟨rfl,hJ,hA,hK⟩ | ⟨rfl,hx⟩)
  rotate_left
  · clear HC
    have HX:=hid hx
    clear hx
    gi_wp2
    refine Dv ?_
    gi_wp2
    refine Dv ?_
    gi_wp2
    refine Dv ?_
    gi_wp2
    refine Dv ?_
    gi_wp2
    refine Dv ?_
    gi_wp2
    refine Dv ?_
    gi_wp2
    go_end0
    have hx:=HX.out
    exact ⟨⟨_,rfl⟩,.inr ⟨[]++[⟨1,0,0,64⟩],by unfold AK;exact (List.prefix_append _ _).trans ((List.prefix_append _ _).trans ((List.prefix_append _ _).trans ((List.prefix_append _ _).trans ((List.prefix_append _ _).trans ((List.prefix_append _ _).trans (List.prefix_refl _)))))),hx⟩⟩
  clear HC
  have HA1:Hid (Blk W1 (W.heap.size+1) 3 [ν 64]):=hA
  have HJ1:=hid hJ
  have HYC1:=hid (hK.blk (Nat.le_refl _) ω HYC.out)
  have HVC1:=hid (hK.blk ω ω HVC.out)
  have v1:W1.cell? ⟨W.heap.size+1+1,0,none⟩=some (.func (.func 65) #[] #[π (W.heap.size+1),π W.heap.size]):=HVC1.out.cell (i:=0) (by simp)
  clear hJ hA hK
  gi_wp2
  have hc:=HR.out (n-1) ([]++[⟨1,0,0,64⟩]) 2 64 64 8 _ HA1.out HYC1.out HVC1.out HJ1.out (by simp [Eb]) (fun j hj=>(by rw [List.append_assoc,← EZ];exact ((List.prefix_append_right_inj _).2 (EI _ _ _ (Nat.succ_le_of_lt hj))).trans (by unfold AK;exact (List.prefix_append _ _).trans ((List.prefix_append _ _).trans ((List.prefix_append _ _).trans ((List.prefix_append _ _).trans ((List.prefix_append _ _).trans (List.prefix_refl _)))))))) ω ω ω ω ω
  rw [show ((8:Nat):Int)=8 from rfl] at hc
  have HC:=hid hc
  clear hc
  refine HC.out.mono ?_
  rintro e W2 (⟨rfl,hJ,hA,hK⟩ | ⟨rfl,q,hq,hx⟩)
  rotate_left
  · clear HC
    have HX:=hid hx
    clear hx
    gi_wp2
    refine Dv ?_
    gi_wp2
    refine Dv ?_
    gi_wp2
    refine Dv ?_
    gi_wp2
    refine Dv ?_
    gi_wp2
    refine Dv ?_
    gi_wp2
    go_end0
    have hx:=HX.out
    exact ⟨⟨_,rfl⟩,.inr ⟨([]++[⟨1,0,0,64⟩])++q,((List.prefix_append_right_inj _).2 hq).trans (by unfold AK;exact (List.prefix_append _ _).trans ((List.prefix_append _ _).trans ((List.prefix_append _ _).trans ((List.prefix_append _ _).trans ((List.prefix_append _ _).trans (List.prefix_refl _)))))),hx⟩⟩
  clear HC
  have HA2:Hid (Blk W2 (W.heap.size+1) 3 [ν 576]):=hA
  have HJ2:=hid hJ
  have HYC2:=hid (hK.blk (Nat.le_refl _) ω HYC1.out)
  have HVC2:=hid (hK.blk ω ω HVC1.out)
  have v2:W2.cell? ⟨W.heap.size+1+1,0,none⟩=some (.func (.func 65) #[] #[π (W.heap.size+1),π W.heap.size]):=HVC2.out.cell (i:=0) (by simp)
  clear hJ hA hK
  gi_wp2
  have hc:=HV.out (n-1) ([]++[⟨1,0,0,64⟩]++CP 2 64 64 8) 3 0 576 64 _ HA2.out HYC2.out HJ2.out (by simp [Eb]) (by unfold AK;exact (List.prefix_append _ _).trans ((List.prefix_append _ _).trans ((List.prefix_append _ _).trans ((List.prefix_append _ _).trans (List.prefix_refl _))))) ω ω ω ω
  have HC:=hid hc
  clear hc
  refine HC.out.mono ?_
  rintro e W3 (⟨rfl,hJ,hA,hK⟩ | ⟨rfl,hx⟩)
  rotate_left
  · clear HC
    have HX:=hid hx
    clear hx
    gi_wp2
    refine Dv ?_
    gi_wp2
    refine Dv ?_
    gi_wp2
    refine Dv ?_
    gi_wp2
    refine Dv ?_
    gi_wp2
    go_end0
    have hx:=HX.out
    exact ⟨⟨_,rfl⟩,.inr ⟨[]++[⟨1,0,0,64⟩]++CP 2 64 64 8++[⟨3,0,576,64⟩],by unfold AK;exact (List.prefix_append _ _).trans ((List.prefix_append _ _).trans ((List.prefix_append _ _).trans ((List.prefix_append _ _).trans (List.prefix_refl _)))),hx⟩⟩
  clear HC
  have HA3:Hid (Blk W3 (W.heap.size+1) 3 [ν 640]):=hA
  have HJ3:=hid hJ
  have HYC3:=hid (hK.blk (Nat.le_refl _) ω HYC2.out)
  have HVC3:=hid (hK.blk ω ω HVC2.out)
  have v3:W3.cell? ⟨W.heap.size+1+1,0,none⟩=some (.func (.func 65) #[] #[π (W.heap.size+1),π W.heap.size]):=HVC3.out.cell (i:=0) (by simp)
  clear hJ hA hK
  gi_wp2
  have hc:=HR.out (n-1) ([]++[⟨1,0,0,64⟩]++CP 2 64 64 8++[⟨3,0,576,64⟩]) 4 640 64 32 _ HA3.out HYC3.out HVC3.out HJ3.out (by simp [Eb]) (fun j hj=>(by rw [List.append_assoc,← EZ];exact ((List.prefix_append_right_inj _).2 (EI _ _ _ (Nat.succ_le_of_lt hj))).trans (by unfold AK;exact (List.prefix_append _ _).trans ((List.prefix_append _ _).trans ((List.prefix_append _ _).trans (List.prefix_refl _)))))) ω ω ω ω ω
  rw [show ((32:Nat):Int)=32 from rfl] at hc
  have HC:=hid hc
  clear hc
  refine HC.out.mono ?_
  rintro e W4 (⟨rfl,hJ,hA,hK⟩ | ⟨rfl,q,hq,hx⟩)
  rotate_left
  · clear HC
    have HX:=hid hx
    clear hx
    gi_wp2
    refine Dv ?_
    gi_wp2
    refine Dv ?_
    gi_wp2
    refine Dv ?_
    gi_wp2
    go_end0
    have hx:=HX.out
    exact ⟨⟨_,rfl⟩,.inr ⟨([]++[⟨1,0,0,64⟩]++CP 2 64 64 8++[⟨3,0,576,64⟩])++q,((List.prefix_append_right_inj _).2 hq).trans (by unfold AK;exact (List.prefix_append _ _).trans ((List.prefix_append _ _).trans ((List.prefix_append _ _).trans (List.prefix_refl _)))),hx⟩⟩
  clear HC
  have HA4:Hid (Blk W4 (W.heap.size+1) 3 [ν 2688]):=hA
  have HJ4:=hid hJ
  have HYC4:=hid (hK.blk (Nat.le_refl _) ω HYC3.out)
  have HVC4:=hid (hK.blk ω ω HVC3.out)
  have v4:W4.cell? ⟨W.heap.size+1+1,0,none⟩=some (.func (.func 65) #[] #[π (W.heap.size+1),π W.heap.size]):=HVC4.out.cell (i:=0) (by simp)
  clear hJ hA hK
  gi_wp2
  have hc:=HV.out (n-1) ([]++[⟨1,0,0,64⟩]++CP 2 64 64 8++[⟨3,0,576,64⟩]++CP 4 640 64 32) 5 0 2688 4096 _ HA4.out HYC4.out HJ4.out (by simp [Eb]) (by unfold AK;exact (List.prefix_append _ _).trans ((List.prefix_append _ _).trans (List.prefix_refl _))) ω ω ω ω
  have HC:=hid hc
  clear hc
  refine HC.out.mono ?_
  rintro e W5 (⟨rfl,hJ,hA,hK⟩ | ⟨rfl,hx⟩)
  rotate_left
  · clear HC
    have HX:=hid hx
    clear hx
    gi_wp2
    refine Dv ?_
    gi_wp2
    refine Dv ?_
    gi_wp2
    go_end0
    have hx:=HX.out
    exact ⟨⟨_,rfl⟩,.inr ⟨[]++[⟨1,0,0,64⟩]++CP 2 64 64 8++[⟨3,0,576,64⟩]++CP 4 640 64 32++[⟨5,0,2688,4096⟩],by unfold AK;exact (List.prefix_append _ _).trans ((List.prefix_append _ _).trans (List.prefix_refl _)),hx⟩⟩
  clear HC
  have HA5:Hid (Blk W5 (W.heap.size+1) 3 [ν 6784]):=hA
  have HJ5:=hid hJ
  have HYC5:=hid (hK.blk (Nat.le_refl _) ω HYC4.out)
  have HVC5:=hid (hK.blk ω ω HVC4.out)
  have v5:W5.cell? ⟨W.heap.size+1+1,0,none⟩=some (.func (.func 65) #[] #[π (W.heap.size+1),π W.heap.size]):=HVC5.out.cell (i:=0) (by simp)
  clear hJ hA hK
  gi_wp2
  have hc:=HR.out (n-1) ([]++[⟨1,0,0,64⟩]++CP 2 64 64 8++[⟨3,0,576,64⟩]++CP 4 640 64 32++[⟨5,0,2688,4096⟩]) 6 6784 1024 8 _ HA5.out HYC5.out HVC5.out HJ5.out (by simp [Eb]) (fun j hj=>(by rw [List.append_assoc,← EZ];exact ((List.prefix_append_right_inj _).2 (EI _ _ _ (Nat.succ_le_of_lt hj))).trans (by unfold AK;exact (List.prefix_append _ _).trans (List.prefix_refl _)))) ω ω ω ω ω
  rw [show ((8:Nat):Int)=8 from rfl] at hc
  have HC:=hid hc
  clear hc
  refine HC.out.mono ?_
  rintro e W6 (⟨rfl,hJ,hA,hK⟩ | ⟨rfl,q,hq,hx⟩)
  rotate_left
  · clear HC
    have HX:=hid hx
    clear hx
    gi_wp2
    refine Dv ?_
    gi_wp2
    go_end0
    have hx:=HX.out
    exact ⟨⟨_,rfl⟩,.inr ⟨([]++[⟨1,0,0,64⟩]++CP 2 64 64 8++[⟨3,0,576,64⟩]++CP 4 640 64 32++[⟨5,0,2688,4096⟩])++q,((List.prefix_append_right_inj _).2 hq).trans (by unfold AK;exact (List.prefix_append _ _).trans (List.prefix_refl _)),hx⟩⟩
  clear HC
  have HA6:Hid (Blk W6 (W.heap.size+1) 3 [ν 14976]):=hA
  have HJ6:=hid hJ
  have HYC6:=hid (hK.blk (Nat.le_refl _) ω HYC5.out)
  have HVC6:=hid (hK.blk ω ω HVC5.out)
  have v6:W6.cell? ⟨W.heap.size+1+1,0,none⟩=some (.func (.func 65) #[] #[π (W.heap.size+1),π W.heap.size]):=HVC6.out.cell (i:=0) (by simp)
  clear hJ hA hK
  gi_wp2
  have hc:=HR.out (n-1) ([]++[⟨1,0,0,64⟩]++CP 2 64 64 8++[⟨3,0,576,64⟩]++CP 4 640 64 32++[⟨5,0,2688,4096⟩]++CP 6 6784 1024 8) 7 14976 64 128 _ HA6.out HYC6.out HVC6.out HJ6.out (by simp [Eb]) (fun j hj=>(by rw [List.append_assoc,← EZ];exact ((List.prefix_append_right_inj _).2 (EI _ _ _ (Nat.succ_le_of_lt hj))).trans (by unfold AK;exact List.prefix_refl _))) ω ω ω ω ω
  rw [show ((128:Nat):Int)=128 from rfl] at hc
  have HC:=hid hc
  clear hc
  refine HC.out.mono ?_
  rintro e W7 (⟨rfl,hJ,hA,hK⟩ | ⟨rfl,q,hq,hx⟩)
  rotate_left
  · clear HC
    have HX:=hid hx
    clear hx
    gi_wp2
    go_end0
    have hx:=HX.out
    exact ⟨⟨_,rfl⟩,.inr ⟨([]++[⟨1,0,0,64⟩]++CP 2 64 64 8++[⟨3,0,576,64⟩]++CP 4 640 64 32++[⟨5,0,2688,4096⟩]++CP 6 6784 1024 8)++q,((List.prefix_append_right_inj _).2 hq).trans (by unfold AK;exact List.prefix_refl _),hx⟩⟩
  clear HC
  have HJ7:=hid hJ
  clear hJ hA hK
  gi_wp2
  go_end0
  exact ⟨⟨_,rfl⟩,.inl ⟨_,rfl,HJ7.out⟩⟩
end
end Go.Proofs.YtjgajoljgepioaaGreat
