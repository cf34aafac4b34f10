/- Parts of the proof. -/
import Derived.RangeFuncFrom
import Derived.RangeFuncGives
import Derived.Sort.MapsRangeIn
import Derived.OwnWalkIn
import Derived.TacticsInMore
import Derived.LoopNIn
import Derived.LoopIn
import Derived.Ground.SlsfProg
import Derived.Shelf.SlSortCmp.NoneTotal
import Derived.Laws.StructEq
import Derived.Test.YtcanemamnmmbcaaGreatDoorQal
namespace Go.Proofs.YtcanemamnmmbcaaGreatDoor
open Go.RowKit
set_option linter.unusedSimpArgs false
set_option linter.unusedVariables false
set_option linter.unusedSectionVars false
set_option maxRecDepth 100000
set_option maxHeartbeats 8000000
section
attribute [local go_sem] Oper.semAt_some
def postW {α:Type} (I:List α→World→Prop) (xs:List α) (W:World):Exit→Act→World→Prop
  | .normal,_,W'=>KeepsOthers W W'∧I xs W'
  | _,_,_=>False
theorem wpIn_rangeFunc_W {F:Fence} {n:Nat} {P:Program} {α:Type} {g:Operand} {ps:Array Tmp} {assign body:Code} {Q:Exit→Act→World→Prop} {a:Act} {w:World}
    (hro:F.round=none) (h1:1≤n) {gf:Nat} {lb:Array Value} (hg:a.eval g=.func (.func gf) #[] lb) (hFg:F.fn gf) (eg:∀ args w,(callFunc gf args).run P w=.ok (.enter gf args) w)
    {enc:α→Value} {S:List α→Prop} {N:Nat} {w0:World} (hseq:SeqGives F (n-1) P gf lb enc S N w0) (hb0:Below w0.heap.size w0 w) (hps:ps.size=1)
    (I:List α→World→Prop) (hI:OwnFrom w.heap.size I) (h0:I [] w)
    (Ax:α→Act→World→Prop) (hAx:∀ x a' X l o o',Ax x a' X→X.heap[l]? = some (.loop o)→Ax x a' (X.putObj l o'))
    (hassign:∀ (l:Nat) (pre:List α) (x:α) (W:World) (K:Act→World→Prop),I pre W→w.heap.size≤W.heap.size→(∀ a' W',KeepsOthers W W'→I pre W'→Ax x a' W'→K a' W') →
      assign.wpIn (F.inRound l) (n-1-1) P (Exit.then K (fun _ _ _=>False)) { tmps:=(ps.zip #[enc x]).foldl (fun t (p,v)=>t.setIfInBounds p v) a.tmps,defers:=[] } W)
    (hbody:∀ (l:Nat) (pre:List α) (x:α) (a':Act) (W:World),I pre W→Ax x a' W→w.heap.size≤W.heap.size→pre.length<N→body.wpIn (F.inRound l) (n-1-1) P (postW I (pre++[x]) W) a' W)
    (hdone:∀ (D:Nat) (xs:List α) (W:World),w.heap.size≤D→S xs→I xs W→W.heap[D]? = some (.deferred (some []))→Q .normal { a with defers:={ target:=.collected D,args:=#[] }::a.defers } W) :
    (Code.rangeFunc g ps assign body).wpIn F n P Q a w:=by
  refine wpIn_rangeFunc ?_
  intro fn hfn
  rw [hro]
  obtain ⟨rec,hrec⟩:∃ rec:LoopState→Option Code→Loop,rec=fun st pe=>{ state:=st,pending:=pe,fn,tmps:=a.tmps,params:=ps,assign,body,defers:=w.heap.size }:=⟨_,rfl⟩
  obtain ⟨W1,hW1⟩:∃ W1,(w.alloc (.deferred (some []))).alloc (.loop (rec .ready none))=W1:=⟨_,rfl⟩
  have hs1:W1.heap.size=w.heap.size+2:=by rw [← hW1];simp
  have hL1:W1.heap[w.heap.size+1]? = some (.loop (rec .ready none)):=by
    rw [← hW1];have:=World.alloc_heap_new (w.alloc (.deferred (some []))) (.loop (rec .ready none));rwa [World.size_alloc] at this
  have hK1:W1.heap[w.heap.size]? = some (.deferred (some [])):=by
    rw [← hW1];exact (Below.heap_alloc _ _ _ (by simp)).trans (World.alloc_heap_new w _)
  have hI1:I [] W1:=by rw [← hW1];exact hI.alloc _ (hI.alloc _ h0)
  have hb1:Below w0.heap.size w0 W1:=by
    rw [← hW1];exact hb0.trans ((((Below.refl _ w).alloc (Nat.le_refl _) _).alloc (by simp) _).mono hb0.size)
  refine ⟨w.heap.size+1,[{ target:=.collected w.heap.size,args:=#[] }],W1,{ target:=.fn (.func gf) lb,args:=#[.func (.yield (w.heap.size+1)) #[] #[]] },W1,gf,
    #[.func (.yield (w.heap.size + 1)) #[] #[]] ++ lb, W1, ?_, ?_, ?_, ?_, fun _ => h1, ?_⟩
  · rw [← hW1,hrec];exact run_enterLoop_outer _ _ _ _ _
  · simp only [resolve,hg]
    simp [go_sem]
  · intro f' hf';simp [Target.leads] at hf';subst hf';exact hFg
  · simp [invoke,go_sem,eg]
  · refine (hseq (w.heap.size+1)
      (fun pre W=>(I pre W∧w.heap.size+1<W.heap.size)∧W.heap[w.heap.size+1]? = some (.loop (rec .ready none))∧W.heap[w.heap.size]? = some (.deferred (some [])))
      W1 hb1 (fun s A B row hs hg' hr=>⟨⟨hI s A B row hs.1.1 hg' (fun r e=>?_),Nat.lt_of_lt_of_le hs.1.2 hg'.size⟩,(grownBy_keeps hg' (fun r e=>(hr r e).2) hs.2.1 rfl).trans hs.2.1,(grownBy_keeps hg' (fun r e=>(hr r e).2) hs.2.2 rfl).trans hs.2.2⟩)
      ?_ ⟨⟨hI1,ω⟩,hL1,hK1⟩).mono ?_
    · obtain ⟨q1,o,q2,q3⟩:=hr r e
      exact ⟨ω,o,q2,Obj.not_cells_of_walk q3⟩
    · rintro pre x W ⟨⟨hi,hlt⟩,hl,hk⟩ hlen
      have hy:=run_yield (P:=P) (args:=#[enc x]) hl (by rw [hrec];exact hps.symm)
      rw [hrec] at hy
      refine ⟨fn,_,assign,body,hy,roundIn_of_wpIn hfn (hassign _ pre x W _ hi ω ?_)⟩
      clear hy
      intro a' Wa hka hia hax
      have hla:=hka.same _ _ hl rfl
      have hkk:=hka.same _ _ hk rfl
      have hlta:w.heap.size+1<Wa.heap.size:=Nat.lt_of_lt_of_le hlt hka.size
      refine ⟨_,run_beginRound hla (by rw [hrec]),?_⟩
      have hl2:(Wa.putObj (w.heap.size+1) (.loop { rec .ready none with state:=.busy })).heap[w.heap.size+1]? = some (.loop { rec .ready none with state:=.busy }):=World.putObj_heap_same hlta
      have hk2:(Wa.putObj (w.heap.size+1) (.loop { rec .ready none with state:=.busy })).heap[w.heap.size]? = some (.deferred (some [])):=(World.putObj_heap_other ω).trans hkk
      have hw2:KeepsWalks Wa (Wa.putObj (w.heap.size+1) (.loop { rec .ready none with state:=.busy })):=KeepsWalks.putObj _ hla rfl
      refine wpIn_mono (hbody _ pre x a' _ (hI.putObj _ hia ω hla rfl) (hAx _ _ _ _ _ _ hax hla) (by rw [World.putObj_size];omega) hlen) ?_
      rintro e a3 W3 hp
      cases e with
      | normal=>
        obtain ⟨hk3,hi3⟩:=hp
        have hl3:=hk3.same _ _ hl2 rfl
        have hk4:=hk3.same _ _ hk2 rfl
        have hr:=run_endRound (P:=P) none hl3
        rw [hrec] at hr hl3 ⊢
        have hsz:w.heap.size+1<W3.heap.size:=(Array.getElem?_eq_some_iff.1 hl3).1
        exact ⟨_,_,hr,rfl,⟨⟨hI.putObj _ hi3 ω hl3 rfl,by rw [World.putObj_size];exact hsz⟩,World.putObj_heap_same hsz,(World.putObj_heap_other ω).trans hk4⟩,((hka.walks.trans hw2).trans hk3.walks).trans (KeepsWalks.putObj _ hl3 rfl)⟩
      | ret=>exact hp.elim
      | exit id=>exact hp.elim
      | goto t=>exact hp.elim
      | panic ch=>exact hp.elim
      | outgrown=>exact hp.elim
    · rintro e W2 ⟨⟨v,rfl⟩,xs,hS,⟨hi,hlt⟩,hl,hk⟩
      exact ⟨none,_,by have:=run_endLoop (P:=P) hl (by rw [hrec];simp);rw [hrec] at this;exact this,hdone _ xs _ (Nat.le_refl _) hS (hI.putObj _ hi ω hl rfl) ((World.putObj_heap_other ω).trans hk)⟩
structure GathO (g:Int×Int→Option (Option Nat)) (left:Lit→Bool) (K:List (Int×Int)):Prop where
  nd:K.Nodup
  wf:∀ p∈K,wfD p∧(g p).isSome=true∧left (kLD p)=false
  all:∀ p,wfD p→(g p).isSome=true→left (kLD p)=false→p∈K
theorem GathO.step {g:Int×Int→Option (Option Nat)} {left:Lit→Bool} {K:List (Int×Int)} (h:GathO g left K) {p:Int×Int} (hp:wfD p) (hg:(g p).isSome=true) (hl:left (kLD p)=true):GathO g (fun z=>left z&&!z.sameKey (kLD p)) (K++[p]) where
  nd:=List.nodup_append.2 ⟨h.nd,by simp,fun a ha b hb e=>by
    rw [List.mem_singleton] at hb;subst hb;subst e
    rw [(h.wf a ha).2.2] at hl;cases hl⟩
  wf q hq:=by
    rcases List.mem_append.1 hq with hq | hq
    · obtain ⟨h1,h2,h3⟩:=h.wf q hq
      exact ⟨h1,h2,by simp [h3]⟩
    · rw [List.mem_singleton] at hq;subst hq
      exact ⟨hp,hg,by simp [KO.same (i:=q) (j:=q) hp hp,show kLD q=KO.kl q from rfl]⟩
  all q hq hgq hlq:=by
    by_cases e:q=p
    · subst e;exact List.mem_append_right _ (List.mem_singleton.2 rfl)
    · refine List.mem_append_left _ (h.all q hq hgq ?_)
      have z:(kLD q).sameKey (kLD p)=false:=(KO.same (i:=p) (j:=q) hp hq).trans (decide_eq_false e)
      simpa [z] using hlq
def kvC (p:Int×Int):List Value:=[ν p.1,ν p.2]
def KeysO (g:Int×Int→Option (Option Nat)) (K:List (Int×Int)):Prop:=K.Nodup∧∀ p,p∈K↔wfD p∧(g p).isSome=true
theorem keysO_gives {w:World} {Bm b n:Nat} {g:Int×Int→Option (Option Nat)} {L:List (Int×Int)} (hBm:Bm<w.heap.size) (hm:w.cell? ⟨Bm,0,none⟩=some (.map (some b))) (hown:MapG KO w b n g) (hL:∀ p,wfD p→(g p).isSome=true→p∈L) :
    SeqGives Fence.wide 4 Tryz.prog 83 #[π Bm] kVD (KeysO g) L.length w:=fun l J W hW hJ hY h0=>by
  have hm':=(hW.cell (p:=⟨Bm,0,none⟩) hBm).trans hm
  obtain ⟨D,h1,h2,h3⟩:=hown.mono hW
  refine callsIn_of_wp Tryz.func83 rfl trivial ?_ rfl
  simp only [Tryz.ntmps83,List.size_toArray,List.length_cons,List.length_nil,Nat.reduceAdd,Nat.reduceSub,Array.replicate_succ,Array.replicate_zero,List.push_toArray,List.append_toArray,List.nil_append,List.cons_append]
  have H2:=hid h2;have H3:=hid h3
  clear h2 h3
  gi_wp2_with (first
    | (gi_at_range;refine wpListIn_range_own _ rfl _ 63 rfl 68 62 keyedD υ63 _ b n _ rfl h1 ?_;intro w0 hrg0 hg0 hs0)
    | gi_in)
  go_frame
  gi_loopw [3] (fun _ wr=>∃ (left:Lit→Bool) (cnt:Nat) (K:List (Int×Int)),wr.ranges Tryz.prog 68 ptR b W.heap.size n D left cnt∧GathO g left K∧J K wr)
    (fun _ wr=>wr.rangeLeft b W.heap.size)
  case atStart=>
    refine ⟨_,_,[],hrg0,⟨List.nodup_nil,fun p h=>(by cases h),fun p hp hg hl=>?_⟩,hJ [] W w0 none h0 hg0 (fun r e=>by cases e)⟩
    have z:=H2.out p hp
    rw [hg] at z;rw [show KO.kl p=kLD p from rfl,hl] at z;cases z
  case round=>
    obtain ⟨left,cnt,K,hrg,hC,hJs⟩:=hrel
    gi_wp2_with (first
      | (gi_at_next;refine wpListIn_next_ranges _ rfl _ rfl 68 keyedD ptR kVD id (fun key kl hk=>by obtain ⟨p,_,e,_⟩:=keyOf_dinv hk;exact ⟨p,e⟩) (fun v _ _=>⟨v,rfl⟩) b W.heap.size n _ _ _ rfl hrg ?_ ?_)
      | gi_in)
    · intro hc0 hl0
      gi_wp2
      go_end0
      exact ⟨⟨_,rfl⟩,K,⟨hC.nd,fun p=>⟨fun hp=>⟨(hC.wf p hp).1,(hC.wf p hp).2.1⟩,fun hp=>hC.all p hp.1 hp.2 (hl0 _)⟩⟩,hJs⟩
    · intro x1 x2 c kl yd yp w2 cnt2 hkey hlk hv hat hrg2 hlt hg2 hs2 hen
      obtain ⟨x',hx,ex,rfl⟩:=keyOf_dinv hkey
      have e:x'=(x1,x2):=by
        simp only [kVD,Value.agg.injEq,Array.mk.injEq,List.cons.injEq,Value.int.injEq,true_and,and_true] at ex
        exact Prod.ext ex.1.symm ex.2.symm
      subst e
      have hgx:(g (x1,x2)).isSome=true:=(H2.out (x1,x2) hx).symm.trans (Maps.has_true_of_atKey hat)
      have hC2:=hC.step hx hgx hlk
      have hlen:K.length<L.length:=by
        have z:=nodup_le (B:=L) hC2.nd (fun p hp=>hL p (hC2.wf p hp).1 (hC2.wf p hp).2.1)
        rw [List.length_append] at z
        exact z
      have hJ2:J K w2:=hJ K wr w2 (some W.heap.size) hJs hg2 (fun r e=>by cases e;exact ⟨Nat.le_refl _,hrg.iter_walk⟩)
      obtain ⟨B2,hB2⟩:∃ B2,B2=w2.heap.size:=⟨_,rfl⟩
      have hrg3:=hrg2
      clear hs2
      have Hhat:=hid hat
      clear hat
      have hJ3:J K (w2.alloc (.cells #[ν x1,ν x2] 68)):=hJ K w2 _ none hJ2 (World.grownBy_alloc w2 _ none) (fun r e=>by cases e)
      obtain ⟨fn,tmps,assign,body,hy,hR⟩:=hY K (x1,x2) _ hJ3 hlen
      clear hY hJ2 hJ3
      simp only [kVD] at hen hy ⊢
      gi_wp2
      refine hR.mono ?_
      rintro e W3 ⟨rfl,hJ3,hk3⟩
      gi_wp2
      have hrg4:=(hrg3.of_walks (KeepsWalks.alloc _ _)).of_walks hk3
      go_roundw
      case rel=>exact ⟨_,cnt2,K++[(x1,x2)],hrg4,hC2,hJ3⟩
      case measure=>rw [hrg4.left_eq,hrg.left_eq];exact hlt
def apI (w0:World) (K:List (Int×Int)) (W:World):Prop:=
  (∃ v,W.heap[w0.heap.size]? = some (.cells #[v] 103 (0,0))∧W.ownsRow w0.heap.size 68 2 v K.length (K.flatMap kvC))∧Below w0.heap.size w0 W
theorem ownsRow_no {W:World} {base:Nat} {e:TypeId} {size:Nat} {v:Value} {k:Nat} {xs:List Value} (h:W.ownsRow base e size v k xs) {j:Nat} {o:Obj} (hj:W.heap[j]? = some o) (ho:∀ c,o≠.cells c e (0,0)):v.ownBlock=none∨v.ownBlock≠some j:=by
  rcases h.2 with ⟨rfl,_⟩ | ⟨g,cap,cur,rfl,_,hgb,_⟩
  · exact .inl rfl
  · refine .inr fun e'=>?_
    have:g=j:=by simpa [Value.ownBlock] using e'
    subst this;rw [hgb] at hj;cases hj;exact ho cur rfl
theorem apI_own (w0:World):OwnFrom (w0.heap.size+1) (apI w0):=fun K W W' row ⟨⟨v,hv,hr⟩,hb⟩ hg hrow=>by
  refine ⟨⟨v,(grownBy_keeps_cells hg (fun r e=>(hrow r e).2) hv rfl).trans hv,hr.kept hg ?_⟩,hb.grown hg hb.size (fun k e=>by have:=(hrow k e).1;omega)⟩
  cases row with
  | none=>rcases hr.2 with ⟨rfl,_⟩ | ⟨g,cap,cur,rfl,_,hgb,_⟩;exact .inl rfl;exact .inr (by simp [Value.ownBlock])
  | some r=>
    obtain ⟨_,o,ho,hc⟩:=hrow r rfl
    exact ownsRow_no hr ho (fun c e=>by rw [e] at hc;cases hc)
def BoxD (B:Nat) (mk:Int×Int→Nat→Act) (x:Int×Int) (a':Act) (W:World):Prop:=∃ Bx,B≤Bx∧Blk W Bx 68 (kvC x)∧a'=mk x Bx
theorem boxD_put {B:Nat} {mk:Int×Int→Nat→Act}:∀ (x:Int×Int) (a':Act) (X:World) (l:Nat) (o:Loop) (o':Obj),BoxD B mk x a' X→X.heap[l]? = some (.loop o)→BoxD B mk x a' (X.putObj l o'):=by
  rintro x a' X l o o' ⟨Bx,hB,hb,rfl⟩ hl
  refine ⟨Bx,hB,?_,rfl⟩
  have hne:Bx≠l:=by
    rintro rfl
    rw [show X.heap[Bx]? = _ from hb] at hl
    cases hl
  exact (World.putObj_heap_other hne).trans hb
theorem two_cells {W:World} {b:Nat} {t:TypeId} {x y:Value} (h:Blk W b t [x,y]):∀ j u,[x,y][j]? = some u→W.cell? ((⟨b,0,none⟩:Addr).add j)=some u
  | 0,u,e=>by cases e;exact h.cell (i:=0) (by simp)
  | 1,u,e=>by cases e;exact h.cell (i:=1) (by simp)
  | j+2,u,e=>by simp at e
theorem box_cell {W:World} {b:Nat} {v:Value} {t:TypeId} (h:W.heap[b]? = some (.cells #[v] t (0,0))):W.cell? ⟨b,0,none⟩=some v:=by simp [World.cell?,h]
theorem box_frozen {W:World} {b:Nat} {v:Value} {t:TypeId} (h:W.heap[b]? = some (.cells #[v] t (0,0))):W.frozen? ⟨b,0,none⟩=false:=by simp [World.frozen?,h]
theorem box_kept {W W':World} {base b k:Nat} {v:Value} {xs:List Value} (hr:W.ownsRow base 68 2 v k xs) (h:W.heap[b]? = some (.cells #[v] 103 (0,0))) (hg:W.grownBy W' v.ownBlock):W'.heap[b]? = some (.cells #[v] 103 (0,0)):=
  (hg.block b (Array.getElem?_eq_some_iff.1 h).1 (by
    rcases ownsRow_no hr h (fun c e=>by cases e) with e | e
    · rw [e];simp
    · exact fun e'=>e e'.symm)).trans h
theorem box_set {W:World} {b:Nat} {v:Value} {t:TypeId} (v':Value) (h:W.heap[b]? = some (.cells #[v] t (0,0))):(W.setCell ⟨b,0,none⟩ v').heap[b]? = some (.cells #[v'] t (0,0)):=by
  obtain ⟨hlt,hk⟩:=Array.getElem?_eq_some_iff.1 h
  show (W.heap.modify b _)[b]? = _
  rw [Array.getElem?_eq_getElem (by rw [Array.size_modify];exact hlt),Array.getElem_modify_self,hk]
  rfl
theorem ownsRow_cells {W:World} {base:Nat} {e:TypeId} {size:Nat} {v:Value} {k:Nat} {xs:List Value} (h:W.ownsRow base e size v k xs) {j:Nat} {o:Obj} (hj:v.ownBlock=some j) (ho:W.heap[j]? = some o):o.isCells=true:=by
  rcases h.2 with ⟨rfl,_⟩ | ⟨g,cap,cur,rfl,_,hgb,_⟩
  · simp [Value.ownBlock] at hj
  · have:g=j:=by simpa [Value.ownBlock] using hj
    subst this;rw [hgb] at ho;cases ho;rfl
theorem infoDesc:(Tryz.prog.info? 68).map (fun i=>(i.zero,i.size,i.bytes))=some (some (.agg #[ν 0,ν 0]),2,16):=κ
theorem appendO_in {w:World} {lb:Array Value} {S:List (Int×Int)→Prop} {N:Nat} (hN:N≤1000) (hseq:SeqGives Fence.wide 4 Tryz.prog 83 lb kVD S N w) :
    CallsIn Fence.wide 5 Tryz.prog 93 #[.slice none 0 0,.func (.func 83) #[] lb] w fun e w'=>
      ∃ v K,e=.returned v∧S K∧w'.ownsRow w.heap.size 68 2 v K.length (K.flatMap kvC)∧Below w.heap.size w w':=by
  refine callsIn_of_wp_marks Tryz.func93 rfl trivial ?_ rfl
  simp only [Tryz.ntmps93,List.size_toArray,List.length_cons,List.length_nil,Nat.reduceAdd,Nat.reduceSub,Array.replicate_succ,Array.replicate_zero,List.push_toArray,List.append_toArray,List.nil_append,List.cons_append]
  gi_wp2
  have hv0:(w.alloc (.cells #[.slice none 0 0] 103)).heap[w.heap.size]? = some (.cells #[.slice none 0 0] 103 (0,0)):=World.alloc_heap_new w _
  have b0:Below w.heap.size w (w.alloc (.cells #[.slice none 0 0] 103)):=(Below.refl _ w).alloc (Nat.le_refl _) _
  have hsz:(w.alloc (.cells #[.slice none 0 0] 103)).heap.size=w.heap.size+1:=by simp
  refine wpIn_rangeFunc_W rfl ω (gf:=83) (lb:=lb) rfl trivial (enters_of Tryz.func83 κ rfl)
    hseq b0 rfl (apI w) (by rw [hsz];exact apI_own w) ⟨⟨_,hv0,⟨rfl,.inl ⟨rfl,rfl⟩⟩⟩,b0⟩
    (BoxD (w.heap.size+1) (fun x Bx=>{ tmps:=#[.slice none 0 0,.func (.func 83) #[] lb,π w.heap.size,undef,.slice none 0 0,π Bx,.func (.func 83) #[] lb,kVD x,undef,undef,undef,undef,undef],defers:=[] })) boxD_put ?assign ?body ?done
  case assign=>
    rintro l pre ⟨x1,x2⟩ W K hI hlt hK
    simp only [kVD]
    gi_wp2
    have hrow':=hI.1
    exact hK _ _ (KeepsOthers.alloc W _) ((apI_own w).alloc _ hI) ⟨W.heap.size,by rw [hsz] at hlt;exact hlt,heap_alloc_new W _,rfl⟩
  case body=>
    rintro l pre ⟨x1,x2⟩ a' W ⟨⟨v,hv,hr⟩,hb⟩ ⟨Bx,hBx,hx,rfl⟩ hlt hlen
    have hc:W.cell? ⟨w.heap.size,0,none⟩=some v:=by simp [World.cell?,hv]
    have hf:W.frozen? ⟨w.heap.size,0,none⟩=false:=by simp [World.frozen?,hv]
    have c0:W.cell? ⟨Bx,0,none⟩=some (ν x1):=hx.cell (i:=0) (by simp [kvC])
    have c1:W.cell? ⟨Bx,1,none⟩=some (ν x2):=hx.cell (i:=1) (by simp [kvC])
    obtain ⟨i0,hi,hz0,hz1,hz2⟩:=info_parts infoDesc
    have hsz1:=hb.size
    have hr1:(W.alloc (.cells #[ν x1,ν x2] 68)).ownsRow w.heap.size 68 2 v pre.length (pre.flatMap kvC):=hr.alloc _
    have hnew:Blk (W.alloc (.cells #[ν x1,ν x2] 68)) W.heap.size 68 [ν x1,ν x2]:=heap_alloc_new W _
    have hlt0:w.heap.size<W.heap.size:=(Array.getElem?_eq_some_iff.1 hv).1
    have hv1:=(Below.heap_alloc W (.cells #[ν x1,ν x2] 68) _ hlt0).trans hv
    simp only [kVD]
    gi_wp2_with (gi_at_builtin;refine wpListIn_append_own _ rfl _ _ 103 rfl w.heap.size 68 i0 (.agg #[ν 0,ν 0]) 2 16 υ103 hi hz0 hz1 hz2 rfl (by decide) _ _ _ rfl hr1 ⟨W.heap.size,0,none⟩ 1 1 [ν x1,ν x2] rfl rfl (two_cells hnew) (by simp [Value.oneCell']) (by unfold maxLen;omega) ω (by simp;omega) ?_;intro v' w3 hown3 hg3 hnil3;clear hnil3;have hg3':(W.alloc (.cells #[ν x1,ν x2] 68)).grownBy w3 v.ownBlock:=hg3;have hv3:=box_kept hr1 hv1 hg3';have hc3:=box_cell hv3;have hf3:=box_frozen hv3;obtain ⟨sa,sc,rfl,hO3⟩:=ownsRow_own hown3;clear hown3)
    have hgs:w3.grownBy (w3.setCell ⟨w.heap.size,0,none⟩ (.slice sa (pre.length+1) sc)) (some w.heap.size):=⟨rfl,rfl,rfl,(KeepsWalks.setCell w3 _ _).size,fun k _ hk=>Below.heap_setCell _ _ _ k (fun e=>hk (by rw [e]))⟩
    have hb3:Below w.heap.size w w3:=(hb.alloc hb.size _).grown hg3' (by simp;omega) (fun k e=>(hr1.lt k e).1)
    have hr4:(w3.setCell ⟨w.heap.size,0,none⟩ (.slice sa (pre.length+1) sc)).ownsRow w.heap.size 68 2 (.slice sa (pre.length+1) sc) (pre.length+1) (pre.flatMap kvC++[ν x1,ν x2]):=World.ownsRow.kept hO3 hgs (ownsRow_no hO3 hv3 (fun c e=>by cases e))
    refine ⟨(KeepsOthers.alloc W _).trans ((KeepsOthers.of_grownBy hg3' (fun j o=>ownsRow_cells hr1)).trans (KeepsOthers.setCell w3 _ _)),⟨_,box_set _ hv3,?_⟩,hb3.grown hgs hb3.size (fun k e=>by cases e;exact Nat.le_refl _)⟩
    rw [List.length_append,List.flatMap_append]
    exact hr4
  case done=>
    rintro D K W hD hS ⟨⟨v,hv,hr⟩,hb⟩ hk
    have hc:W.cell? ⟨w.heap.size,0,none⟩=some v:=by simp [World.cell?,hv]
    gi_wp2
    refine ⟨by simp,.inl ⟨_,_,rfl,run_takeDeferred hk,?_⟩⟩
    refine ⟨_,results_tmp rfl _ _ _,v,K,rfl,hS,hr.kept (grownBy_putObj' _ _ _) (ownsRow_no hr hk (fun c e=>by cases e)),hb.grown (grownBy_putObj' _ _ _) hb.size (fun k e=>by cases e;rw [hsz] at hD;omega)⟩
end
section
open Go.Shelf
def shDSlF020_f108_ren:Go.Shelf.Ren:=⟨fun | 20=>108 | n=>n,fun | 24=>68 | 22=>103 | 3=>3 | 25=>108 | 4=>4 | 0=>0 | n=>n,fun | n=>n⟩
def shDSlF014_f94_ren:Go.Shelf.Ren:=⟨fun | 14=>94 | 20=>108 | 21=>109 | 22=>110 | 23=>111 | 24=>112 | 25=>113 | 26=>114 | 27=>115 | 46=>129 | 47=>130 | 48=>131 | 49=>132 | 50=>133 | 15=>95 | 57=>149 | 28=>116 | 29=>117 | n=>n,fun | 24=>68 | 22=>103 | 3=>3 | 25=>108 | 4=>4 | 0=>0 | 46=>162 | 45=>161 | 50=>166 | 66=>182 | 39=>145 | 55=>171 | 70=>186 | 76=>200 | 77=>201 | 53=>169 | 5=>5 | 9=>9 | n=>n,fun | n=>n⟩
def shDSlF06_f82_ren:Go.Shelf.Ren:=⟨fun | 6=>82 | 15=>95 | 14=>94 | 28=>116 | 29=>117 | 20=>108 | 21=>109 | 22=>110 | 23=>111 | 24=>112 | 25=>113 | 26=>114 | 27=>115 | 46=>129 | 47=>130 | 48=>131 | 49=>132 | 50=>133 | 57=>149 | n=>n,fun | 22=>103 | 24=>68 | 25=>108 | 3=>3 | 39=>145 | 0=>0 | 53=>169 | 55=>171 | 4=>4 | 46=>162 | 45=>161 | 50=>166 | 5=>5 | 9=>9 | 66=>182 | 70=>186 | 76=>200 | 77=>201 | n=>n,fun | n=>n⟩
theorem shDSlF06_f82:Go.Proofs.SlLaysF0.n6 Tryz.prog shDSlF06_f82_ren:={
  mixed:=κ
  f6:=⟨Tryz.f82.name,by decide,Tryz.func82.trans (congrArg some κ)⟩
  f14:=⟨Tryz.f94.name,by decide,Tryz.func94.trans (congrArg some κ)⟩
  f15:=Tryz.func95.trans (congrArg some κ)
  f20:=⟨Tryz.f108.name,by decide,Tryz.func108.trans (congrArg some κ)⟩
  f21:=⟨Tryz.f109.name,by decide,Tryz.func109.trans (congrArg some κ)⟩
  f22:=⟨Tryz.f110.name,by decide,Tryz.func110.trans (congrArg some κ)⟩
  f23:=⟨Tryz.f111.name,by decide,Tryz.func111.trans (congrArg some κ)⟩
  f24:=⟨Tryz.f112.name,by decide,Tryz.func112.trans (congrArg some κ)⟩
  f25:=⟨Tryz.f113.name,by decide,Tryz.func113.trans (congrArg some κ)⟩
  f26:=⟨Tryz.f114.name,by decide,Tryz.func114.trans (congrArg some κ)⟩
  f27:=⟨Tryz.f115.name,by decide,Tryz.func115.trans (congrArg some κ)⟩
  f28:=Tryz.func116.trans (congrArg some κ)
  f29:=Tryz.func117.trans (congrArg some κ)
  f46:=⟨Tryz.f129.name,by decide,Tryz.func129.trans (congrArg some κ)⟩
  f47:=Tryz.func130.trans (congrArg some κ)
  f48:=Tryz.func131.trans (congrArg some κ)
  f49:=⟨Tryz.f132.name,by decide,Tryz.func132.trans (congrArg some κ)⟩
  f50:=⟨Tryz.f133.name,by decide,Tryz.func133.trans (congrArg some κ)⟩
  f57:=⟨Tryz.f149.name,by decide,Tryz.func149.trans (congrArg some κ)⟩
  t0:=υ0
  a0:=Tryz.isAgg0
  z0:=Tryz.sizeOf0
  v0:=Tryz.zeroValue0
  t3:=υ3
  a3:=Tryz.isAgg3
  z3:=Tryz.sizeOf3
  v3:=Tryz.zeroValue3
  t4:=υ4
  a4:=Tryz.isAgg4
  z4:=Tryz.sizeOf4
  v4:=Tryz.zeroValue4
  t5:=υ5
  a5:=Tryz.isAgg5
  z5:=Tryz.sizeOf5
  v5:=Tryz.zeroValue5
  t9:=υ9
  a9:=Tryz.isAgg9
  z9:=Tryz.sizeOf9
  v9:=Tryz.zeroValue9
  t22:=υ103
  a22:=Tryz.isAgg103
  z22:=Tryz.sizeOf103
  v22:=Tryz.zeroValue103
  t25:=υ108
  a25:=Tryz.isAgg108
  z25:=Tryz.sizeOf108
  v25:=Tryz.zeroValue108
  t39:=υ145
  a39:=Tryz.isAgg145
  z39:=Tryz.sizeOf145
  v39:=Tryz.zeroValue145
  t45:=υ161
  a45:=Tryz.isAgg161
  z45:=Tryz.sizeOf161
  v45:=Tryz.zeroValue161
  t46:=υ162
  a46:=Tryz.isAgg162
  z46:=Tryz.sizeOf162
  v46:=Tryz.zeroValue162
  t50:=υ166
  a50:=Tryz.isAgg166
  z50:=Tryz.sizeOf166
  v50:=Tryz.zeroValue166
  t53:=υ169
  a53:=Tryz.isAgg169
  z53:=Tryz.sizeOf169
  v53:=Tryz.zeroValue169
  t55:=υ171
  a55:=Tryz.isAgg171
  z55:=Tryz.sizeOf171
  v55:=Tryz.zeroValue171
  t66:=υ182
  a66:=Tryz.isAgg182
  z66:=Tryz.sizeOf182
  v66:=Tryz.zeroValue182
  t70:=υ186
  a70:=Tryz.isAgg186
  z70:=Tryz.sizeOf186
  v70:=Tryz.zeroValue186
  t76:=υ200
  a76:=Tryz.isAgg200
  z76:=Tryz.sizeOf200
  v76:=Tryz.zeroValue200
  t77:=υ201
  a77:=Tryz.isAgg201
  z77:=Tryz.sizeOf201
  v77:=Tryz.zeroValue201 }
open Go.RowKit Go.Lib Go.Sort in
theorem slices_SortFunc_none {α:Type} [Inhabited α] (p:Option Addr) (cap:Nat) (fv:Value) (w:World) :
    Calls Tryz.prog 82 #[.slice p 0 cap,fv] w fun e w'=>e=.returned (.tuple #[])∧w'=w:=AnyF.slices_SortFunc_none shDSlF06_f82 p cap fv w
open Go.RowKit Go.Lib Go.Sort in
theorem slices_SortFunc_total {α:Type} [Inhabited α] (k:Nat) (aE:∀ w,(isAgg 68).run Tryz.prog w=.ok true w) (zE:∀ w,(Go.sizeOf 68).run Tryz.prog w=.ok k w) (enc:α→List Value) (hk:∀ x,(enc x).length=k) (h1:∀ x,∀ v∈enc x,v.oneCell'=true) (cf:α→α→Int) (hO:SWO (ltOf cf)) (g:Nat) (cb:Array Value) (blk off cap:Nat) (d:Array α) (w:World) (eg:∀ args w,(callFunc g args).run Tryz.prog w=.ok (.enter g args) w) (hcmp:CmpLays Tryz.prog g cb enc k cf blk off d.size w) (hH:HoldsK enc k w blk off d) (hblk:blk<w.heap.size) (hsz:d.size<4611686018427387904) (hT:∀ x y,(ltOf cf) x y=false→(ltOf cf) y x=false→x=y) :
    Calls Tryz.prog 82 #[.slice (some ⟨blk,off,none⟩) d.size cap,.func (.func g) #[] cb] w fun e w'=>
      e=.returned (.tuple #[])∧∃ n os,w'=sortWorldK enc k w blk off n (d.toList.mergeSort fun x y=>!(ltOf cf) y x).toArray os:=AnyQ.slices_SortFunc_total shDSlF06_f82 k aE zE enc hk h1 cf hO g cb blk off cap d w eg hcmp hH hblk hsz hT
end
section
open Go.RowKit Go.Sort Go.Lib
theorem flatK_eq {α:Type} [Inhabited α] {enc:α→List Value} {sz:Nat} (h:∀ x,(enc x).length=sz) (d:Array α):flatK enc sz d=(d.toList.flatMap enc).toArray:=by
  apply Array.ext'
  refine List.ext_getElem? fun i=>?_
  by_cases hi:i<d.size*sz
  · have hsz:0<sz:=Nat.pos_of_ne_zero fun e=>by subst e;simp at hi
    have hd:i / sz<d.size:=Nat.div_lt_of_lt_mul (by rw [Nat.mul_comm];exact hi)
    have hm:i % sz<sz:=Nat.mod_lt _ hsz
    rw [show (d.toList.flatMap enc).toArray.toList=d.toList.flatMap enc from rfl]
    rw [ls_get h (L:=d.toList) (j:=i / sz) (k:=i % sz) default (by simpa using hd) hm (by rw [Nat.mul_comm];exact Nat.div_add_mod i sz)]
    have e:d.toList.getD (i / sz) default=d[i / sz]!:=by simp [List.getD_eq_getElem?_getD,getElem!_pos,hd]
    rw [e,Array.getElem?_toList,Array.getElem?_eq_getElem (by simpa using hi)]
    have hl:i % sz<(enc d[i / sz]!).length:=by rw [h];exact hm
    rw [List.getElem?_eq_getElem hl]
    simp [flatK,hl]
  · rw [List.getElem?_eq_none (by simp [flatK];omega),List.getElem?_eq_none (by show (d.toList.flatMap enc).length≤i;rw [ls_len h];simp;omega)]
theorem holds_of_blockV {w:World} {g:Nat} {cur:Array Value} {e:TypeId} {ss:List Value} (hb:w.heap[g]? = some (.cells cur e (0,0))) (ht:cur.toList.take ss.length=ss):Holds id w g 0 ss.toArray:=by
  intro j hj
  have hj':j<ss.length:=by simpa using hj
  refine ⟨?_,by simp [World.frozen?,hb]⟩
  have h1:(cur.toList.take ss.length)[j]? = ss[j]?:=by rw [ht]
  rw [List.getElem?_take_of_lt hj'] at h1
  simp only [World.cell?,hb,Nat.zero_add]
  simp only [Option.isSome_none,Bool.false_eq_true,if_false]
  rw [← Array.getElem?_toList,h1]
  simp [hj']
theorem heap_sortedV {w:World} {g n:Nat} {os:Array Obj} {cur:Array Value} {e:TypeId} {fr:Nat×Nat} (d:Array Value) (hb:w.heap[g]? = some (.cells cur e fr)) :
    (grow (putRow id (Sort.ahead w n) g 0 d) os).heap[g]? = some (.cells (putCells id 0 d cur) e fr):=by
  have hg:g<w.heap.size:=(Array.getElem?_eq_some_iff.1 hb).1
  rw [heap_grow_old _ _ (by simpa using hg)]
  simp [putRow,mapBlock,Sort.ahead,Array.getElem?_modify,hb,onCells]
theorem grownBy_sortedV {w:World} {g n:Nat} {os:Array Obj} (d:Array Value):w.grownBy (grow (putRow id (Sort.ahead w n) g 0 d) os) (some g):=by
  refine ⟨rfl,rfl,rfl,by simp,fun k hk hne=>?_⟩
  rw [heap_grow_old _ _ (by simpa using hk)]
  have:g≠k:=fun e=>hne (by rw [e])
  simp [putRow,mapBlock,Sort.ahead,Array.getElem?_modify,this]
theorem take_putCellsV (cur:Array Value) (ts:List Value) (h:ts.length≤cur.size):(putCells id 0 ts.toArray cur).toList.take ts.length=ts:=by
  apply List.ext_getElem?
  intro j
  by_cases hj:j<ts.length
  · rw [List.getElem?_take_of_lt hj,Array.getElem?_toList]
    simp [putCells,hj,show j<cur.size by omega]
  · rw [List.getElem?_take_eq_none ω,List.getElem?_eq_none ω]
theorem own_sortK {α:Type} [Inhabited α] {enc:α→List Value} {sz:Nat} (henc:∀ x,(enc x).length=sz) {w:World} {B:Nat} {e:TypeId} {g c:Nat} {L:List α} (h:Own w B e sz (some ⟨g,0,none⟩) L.length c (L.flatMap enc)) :
    HoldsK enc sz w g 0 L.toArray∧g<w.heap.size∧∀ n os (M:List α),M.length=L.length→Own (sortWorldK enc sz w g 0 n M.toArray os) B e sz (some ⟨g,0,none⟩) M.length c (M.flatMap enc)∧w.grownBy (sortWorldK enc sz w g 0 n M.toArray os) (some g):=by
  obtain ⟨h0,h1⟩:=h
  rcases h1 with ⟨hv,_⟩ | ⟨g',cap,cur,hv,hbase,hb,h2,h3,h4,h5⟩
  · cases hv
  · cases hv
    have hlen:∀ M:List α,M.length=L.length→(M.flatMap enc).length=L.length*sz:=fun M hM=>by rw [ls_len henc,hM]
    refine ⟨?_,(Array.getElem?_eq_some_iff.1 hb).1,fun n os M hM=>?_⟩
    · unfold HoldsK
      rw [flatK_eq henc]
      exact holds_of_blockV hb (by rw [show L.toArray.toList=L from rfl,hlen L rfl];exact h5)
    · unfold sortWorldK putRowK
      rw [flatK_eq henc,show M.toArray.toList=M from rfl]
      have hcap:L.length*sz≤cur.size:=by rw [h4];exact Nat.mul_le_mul_right _ h2
      refine ⟨⟨by rw [hlen M hM,hM],.inr ⟨g,c,_,rfl,hbase,heap_sortedV _ hb,ω,h3,by simp [putCells,h4],?_⟩⟩,grownBy_sortedV _⟩
      have:=take_putCellsV cur (M.flatMap enc) (by rw [hlen M hM];exact hcap)
      rw [hM,← hlen M hM];exact this
end
section
open Go.Sort Go.Lib
theorem fa_posix_descriptor_qf_0 (g off:Nat) (w:World):(Instr.fieldAt 68 (.pointer (some ⟨g,off,none⟩)) 0).run Tryz.prog w=.ok (.pointer (some ⟨g,off+0,none⟩)) w:=rfl
theorem fa_posix_descriptor_qf_1 (g off:Nat) (w:World):(Instr.fieldAt 68 (.pointer (some ⟨g,off,none⟩)) 1).run Tryz.prog w=.ok (.pointer (some ⟨g,off+1,none⟩)) w:=rfl
theorem cp_slices_AppendSeq_posix_descriptor_posix_descriptor_qh (args:Array Value) (w:World):(callFunc 93 args).run Tryz.prog w=.ok (.enter 93 args) w:=by
 have h:=Tryz.func93
 go_simp
theorem cp_slices_Collect_posix_descriptor_qi (args:Array Value) (w:World):(callFunc 81 args).run Tryz.prog w=.ok (.enter 81 args) w:=by
 have h:=Tryz.func81
 go_simp
theorem cp_slices_SortFunc_posix_descriptor_posix_descriptor_qi (args:Array Value) (w:World):(callFunc 82 args).run Tryz.prog w=.ok (.enter 82 args) w:=by
 have h:=Tryz.func82
 go_simp
theorem cmpD_s (w:World) (p q:Int×Int) (hp:(1≤p.1∧p.1≤8)∧0≤p.2∧p.2<8) (hq:(1≤q.1∧q.1≤8)∧0≤q.2∧q.2<8) :
  CallsR Tryz.prog 63 #[.agg #[ν p.1,ν p.2],.agg #[ν q.1,ν q.2]] w (fun v w'=>v=ν (if p.1≠q.1 then p.1-q.1 else p.2-q.2)∧∃ k os,w'=Go.Sort.grow (w.drewN k) os):=by
 have hS:Sep w []:=Sep.nil w
 refine enterR Tryz.func63 rfl (N:=20) Tryz.ntmps63 (by show 2≤20;decide) [(0,.agg #[ν p.1,ν p.2]),(1,.agg #[ν q.1,ν q.2])] rfl fun _ h1=>sqr fun _ hK3=>so (wn rfl) fun _ hK1=>xbox h1 rfl rfl rfl rfl rfl (z:=[ν p.1,ν p.2]) rfl hS fun _ g4 w7 h5 s8 b9 _=>hK1 _ _ ?_
 refine so (wn rfl) fun _ hK2=>xbox h5 rfl rfl rfl rfl rfl (z:=[ν q.1,ν q.2]) rfl s8 fun _ g1 w1 h2 s1 b1 _=>hK2 _ _ ?_
 refine mv h2 rfl fun _ h3=>wpList_nil<|hK3 _ _<|sq fun _ hK4=>sqr fun _ hK5=>fav h3 rfl (fa_posix_descriptor_qf_0 _ _) fun _ h4=>ldv h4 s1 1 υ3 rfl rfl rfl rfl fun _ h6=>fav h6 rfl (fa_posix_descriptor_qf_0 _ _) fun _ h7=>ldv h7 s1 0 υ3 rfl rfl rfl rfl fun _ h8=>bv h8 (z:=.bool (decide (p.1≠q.1))) rfl (cNe _ _ _ _ rfl) fun _ h9=>h9.sn [9,4,3,2,0,1] rfl fun h10=>hK5 _ _ ?_
 rcases bC (decide (p.1≠q.1)) with hc1 | hc1
 ·skip
  have hp1:p.1≠q.1:=(dT hc1)
  refine wcT h10 rfl hc1<|h10.sk [4,3,2,0,1] rfl fun h11=>sqr fun _ hK6=>fav h11 rfl (fa_posix_descriptor_qf_0 _ _) fun _ h12=>ldv h12 s1 1 υ3 rfl rfl rfl rfl fun _ h13=>fav h13 rfl (fa_posix_descriptor_qf_0 _ _) fun _ h14=>ldv h14 s1 0 υ3 rfl rfl rfl rfl fun _ h15=>bv h15 (z:=ν (p.1-q.1)) rfl (bSub _ _ _ ω ω ω) fun _ h16=>h16.sk [14,13,12,11,10,3,2,0,1] rfl fun h17=>mv h17 rfl fun _ h18=>?_
  refine h18.sn [4,3,2,0,1] rfl fun h19=>hK6 _ _<|wp_ret ?_
  try simp only [Exit.then,Exit.inBlock]
  refine retR (v:=ν (p.1-q.1)) (res1 h19 rfl rfl) h19.defs ?_
  refine ⟨by rw [if_pos ω],0,?_⟩
  obtain ⟨ob9,rfl⟩:=b9
  obtain ⟨ob17,rfl⟩:=b1
  exact ⟨_,by rw [Go.Sort.alloc_eq_grow,Go.Sort.alloc_eq_grow,Go.Sort.grow_grow];rfl⟩
 ·skip
  have hp2:¬ (p.1≠q.1):=(dF hc1)
  refine wcF h10 rfl hc1<|h10.sk [4,3,2,0,1] rfl fun h20=>wp_skip<|hK4 _ _<|sqr fun _ hK7=>fav h20 rfl (fa_posix_descriptor_qf_1 _ _) fun _ h21=>ldv h21 s1 1 υ3 rfl rfl rfl rfl fun _ h22=>fav h22 rfl (fa_posix_descriptor_qf_1 _ _) fun _ h23=>ldv h23 s1 0 υ3 rfl rfl rfl rfl fun _ h24=>bv h24 (z:=ν (p.2-q.2)) rfl (bSub _ _ _ ω ω ω) fun _ h25=>h25.sk [19,18,17,16,15,3,2,0,1] rfl fun h26=>?_
  refine mv h26 rfl fun _ h27=>h27.sn [4,3,2,0,1] rfl fun h28=>hK7 _ _<|wp_ret ?_
  try simp only [Exit.then,Exit.inBlock]
  refine retR (v:=ν (p.2-q.2)) (res1 h28 rfl rfl) h28.defs ?_
  refine ⟨by rw [if_neg ω],0,?_⟩
  obtain ⟨ob9,rfl⟩:=b9
  obtain ⟨ob17,rfl⟩:=b1
  exact ⟨_,by rw [Go.Sort.alloc_eq_grow,Go.Sort.alloc_eq_grow,Go.Sort.grow_grow];rfl⟩
abbrev DF:=Fin 8×Fin 8
def df (p:DF):Int×Int:=(((p.1.val+1:Nat):Int),((p.2.val:Nat):Int))
theorem df_bd (p:DF):(1≤(df p).1∧(df p).1≤8)∧0≤(df p).2∧(df p).2<8:=by
 have h1:=p.1.isLt
 have h2:=p.2.isLt
 unfold df
 refine ⟨⟨?_,?_⟩,?_,?_⟩<;>simp only<;>omega
theorem df_inj {p q:DF} (h:df p=df q):p=q:=by
 unfold df at h
 have h1:=(Prod.mk.inj h).1
 have h2:=(Prod.mk.inj h).2
 exact Prod.ext (Fin.ext ω) (Fin.ext ω)
theorem df_of:∀ {K:List (Int×Int)},(∀ p∈K,(1≤p.1∧p.1≤8)∧0≤p.2∧p.2<8)→∃ M:List DF,K=M.map df
 | [],_=>⟨[],rfl⟩
 | p::K,h=>by
  obtain ⟨M,hM⟩:=df_of (K:=K) (fun q hq=>h q (List.mem_cons_of_mem _ hq))
  have hp:=h p List.mem_cons_self
  refine ⟨(⟨(p.1-1).toNat,ω⟩,⟨p.2.toNat,ω⟩)::M,?_⟩
  rw [List.map_cons,← hM]
  congr 1
  unfold df
  exact Prod.ext (by show p.1=_;simp only;omega) (by show p.2=_;simp only;omega)
def encD (p:DF):List Value:=kvC (df p)
theorem flat_df (M:List DF):(M.map df).flatMap kvC=M.flatMap encD:=by induction M<;>simp_all [encD]
def cfD (x y:DF):Int:=if (df x).1≠(df y).1 then (df x).1-(df y).1 else (df x).2-(df y).2
theorem ltD_iff (x y:DF):ltOf cfD x y=true↔(df x).1<(df y).1∨((df x).1=(df y).1∧(df x).2<(df y).2):=by
 unfold ltOf cfD
 rw [decide_eq_true_eq]
 split<;>omega
theorem ltD_no (x y:DF):ltOf cfD x y=false↔¬ ((df x).1<(df y).1∨((df x).1=(df y).1∧(df x).2<(df y).2)):=by
 rw [← ltD_iff];simp
theorem swoD:Go.Sort.SWO (ltOf cfD):=by
 refine ⟨fun x=>?_,fun x y z h1 h2=>?_,fun x y z h1 h2=>?_⟩
 ·rw [ltD_no];omega
 ·rw [ltD_iff] at *;omega
 ·rw [ltD_no] at *;omega
theorem totD (x y:DF) (h1:ltOf cfD x y=false) (h2:ltOf cfD y x=false):x=y:=by
 rw [ltD_no] at *
 exact df_inj (Prod.ext ω ω)
theorem callD (args:Array Value) (w:World):(callFunc 63 args).run Tryz.prog w=.ok (.enter 63 args) w:=by
 have h:=Tryz.func63
 go_simp
theorem sortD_s {w:World} {B:Nat} {a:Option Addr} {c:Nat} {F:FsM} {K:List (Int×Int)} {R:List Ch} (hS:Sep w (ownC B 68 2 a K.length c (K.flatMap kvC)::R)) (hp:K.Perm (fdsF F)) :
  CallsR Tryz.prog 82 #[.slice a K.length c,.func (.func 63) #[] #[]] w fun v w'=>v=.tuple #[]∧Sep w' (ownC 0 68 2 a (fdsF F).length c ((fdsF F).flatMap kvC)::R):=by
 have hO:Own w 0 68 2 a K.length c (K.flatMap kvC):=Own.low (hS.get 0 rfl) (Nat.zero_le _)
 obtain ⟨M,rfl⟩:=df_of (K:=K) (fun p h=>keys64_bd (List.mem_filter.1 (hp.mem_iff.1 h)).1)
 cases a with
 | none=>
  have hn:(M.map df).length=0:=by
   rcases hO.2 with ⟨_,h0⟩ | ⟨g',cap,cur,hv,_⟩
   ·exact h0
   ·cases hv
  have hM:M=[]:=List.eq_nil_of_length_eq_zero (by simpa using hn)
  subst hM
  have ha:fdsF F=[]:=List.eq_nil_of_length_eq_zero (by rw [← hp.length_eq];rfl)
  rw [ha]
  refine (slices_SortFunc_none (α:=DF) none c _ w).mono fun e w' q=>⟨_,q.1,rfl,?_⟩
  rw [q.2]
  exact Sep.upd hS 0 rfl (Turns.refl (fun _=>False) w) (fun k _ e=>e.elim) (c':=ownC 0 68 2 none 0 c []) hO (fun k hk=>.inl hk)
 | some ad=>
  have had:∃ q,ad=⟨q,0,none⟩:=by
   rcases hO.2 with ⟨hv,_⟩ | ⟨g',cap,cur,hv,_⟩
   ·cases hv
   ·cases hv;exact ⟨g',rfl⟩
  obtain ⟨q,rfl⟩:=had
  rw [flat_df,List.length_map] at hO
  obtain ⟨h1,h2,h3⟩:=own_sortK (enc:=encD) (fun _=>rfl) hO
  have hlen:M.length≤64:=by have:=hp.length_eq;rw [List.length_map] at this;have:=fdsF_len F;omega
  have hcmp:CmpLays Tryz.prog 63 #[] encD 2 cfD q 0 M.toArray.size w:=fun m os dk _ x y=>
   Calls.mono (cmpD_s _ (df x) (df y) (df_bd x) (df_bd y)) fun e w' ⟨v,e1,e2,r⟩=>⟨by rw [e1,e2];rfl,r⟩
  have hc:=slices_SortFunc_total (α:=DF) 2 Tryz.isAgg68 Tryz.sizeOf68 encD (fun _=>rfl) (fun x v hv=>by simp [encD,kvC] at hv;rcases hv with rfl | rfl<;>rfl) cfD swoD 63 #[] q 0 c M.toArray w callD hcmp h1 h2 (by simp;omega) totD
  rw [List.length_map]
  refine hc.mono fun e w' r=>?_
  obtain ⟨r1,n,os,rfl⟩:=r
  refine ⟨_,r1,rfl,?_⟩
  obtain ⟨M',hM'⟩:∃ M',M'=M.mergeSort fun x y=>!(ltOf cfD) y x:=⟨_,rfl⟩
  have hperm:M'.Perm M:=by rw [hM'];exact List.mergeSort_perm _ _
  have hsorted:(M'.map df).Pairwise (fun p q=>p.1<q.1∨(p.1=q.1∧p.2≤q.2)):=by
   rw [List.pairwise_map,hM']
   refine (List.pairwise_mergeSort (le:=fun x y=>!(ltOf cfD) y x) (fun x y z a b=>?_) (fun x y=>?_) M).imp fun {x y} hxy=>?_
   ·simp only [Bool.not_eq_true'] at a b ⊢
    exact swoD.ntrans z y x b a
   ·cases hb:ltOf cfD y x
    ·rfl
    ·simp only [Bool.not_true,Bool.false_or,Bool.not_eq_true']
     rw [ltD_iff] at hb;rw [ltD_no];omega
   ·simp only [Bool.not_eq_true'] at hxy
    rw [ltD_no] at hxy;omega
  have hall:M'.map df=fdsF F:=by
   refine List.Perm.eq_of_pairwise (le:=fun p q=>decide (p.1<q.1∨(p.1=q.1∧p.2≤q.2))) (fun a b _ _ h1 h2=>?_) (hsorted.imp fun {a b} h=>decide_eq_true h) ((fdsF_up F).imp fun {a b} h=>decide_eq_true ω) ((hperm.map df).trans hp)
   simp only [decide_eq_true_eq] at h1 h2
   exact Prod.ext ω ω
  have hl':M'.length=M.length:=hperm.length_eq
  obtain ⟨o1,o2⟩:=h3 n os M' hl'
  rw [← hM',← hall,flat_df,List.length_map]
  exact Sep.upd hS 0 rfl (Turns.of_row (r:=some q) o2) (fun k _ hk=>hk) (c':=ownC 0 68 2 (some ⟨q,0,none⟩) M'.length c (M'.flatMap encD)) o1 (fun k hk=>.inl hk)
def KeysD (w:World) (g:Int×Int→Option (Option Nat)) (lb:Array Value):Prop:=
 ∀ L:List (Int×Int),(∀ p,wfD p→(g p).isSome=true→p∈L)→SeqGives Fence.wide 4 Tryz.prog 83 lb kVD (KeysO g) L.length w
theorem appendD_s {w:World} {R:List Ch} {g:Int×Int→Option (Option Nat)} {lb:Array Value} {L:List (Int×Int)} (hS:Sep w R) (hK:KeysD w g lb) (hL:∀ p,wfD p→(g p).isSome=true→p∈L) (hl:L.length≤1000) :
  CallsR Tryz.prog 93 #[.slice none 0 0,.func (.func 83) #[] lb] w fun v w'=>∃ K a c,v=.slice a K.length c∧Sep w' (ownC 0 68 2 a K.length c (K.flatMap kvC)::R)∧KeysO g K:=
 ((callsIn_wide (n:=5)).1 (appendO_in hl (hK L hL))).mono fun e w' ⟨v,K,e1,hO,hr,hb⟩=>by
  obtain ⟨a,c,rfl,hO2⟩:=ownsRow_own hr
  exact ⟨_,e1,K,a,c,rfl,hS.own hb hO2,hO⟩
theorem keysD_s {w:World} {ob n:Nat} {g:Int×Int→Option (Option Nat)} {R:List Ch} (hS0:Sep w ([mapC KO ob n g]++R)) :
  CallsR Tryz.prog 62 #[.map (some ob)] w (fun v w'=>∃ lb,v=.func (.func 83) #[] lb∧KeysD w' g lb∧Sep w' ([mapC KO ob n g]++R)):=by
 have hS:Sep w [mapC KO ob n g,Ch.many R]:=Sep.tail_many (xs:=[_]) hS0;clear hS0
 refine enterR Tryz.func62 rfl (N:=4) Tryz.ntmps62 (by show 1≤4;decide) [(0,.map (some ob))] rfl fun _ h1=>sqr fun _ hK3=>so (wn rfl) fun _ hK1=>xbox h1 rfl rfl rfl rfl rfl (z:=[.map (some ob)]) rfl hS fun _ g4 w7 h5 s8 _ _=>hK1 _ _ ?_
 refine mv h5 rfl fun _ h2=>wpList_nil<|hK3 _ _<|sqr fun _ hK2=>sv1 h2 rfl (v:=.func (.func 83) #[] #[π g4]) (rfunc h2 (xs:=[]) (ys:=[.tmp 1]) rfl (vs:=[]) (us:=[π g4]) rfl rfl) fun _ h3=>h3.sk [3,1,0] rfl fun h4=>mv h4 rfl fun _ h6=>h6.sn [2,1,0] rfl fun h7=>hK2 _ _<|wp_ret ?_
 try simp only [Exit.then,Exit.inBlock]
 refine retR (v:=.func (.func 83) #[] #[π g4]) (res1 h7 rfl rfl) h7.defs ?_
 have hb:Blk _ _ _ _:=s8.get 0 rfl
 exact ⟨_,rfl,fun L hL=>keysO_gives hb.lt (hb.cell (i:=0) (by simp)) (s8.get 1 rfl:MapG KO _ _ _ _) hL,Sep.tail_un (xs:=[_]) (s8.pk [1,2] rfl)⟩
theorem collectD_s {w:World} {R:List Ch} {g:Int×Int→Option (Option Nat)} {lb:Array Value} {L:List (Int×Int)} (hS0:Sep w R) (hK:KeysD w g lb) (hL:∀ p,wfD p→(g p).isSome=true→p∈L) (hl:L.length≤1000) :
  CallsR Tryz.prog 81 #[.func (.func 83) #[] lb] w fun v w'=>∃ K a c,v=.slice a K.length c∧Sep w' (ownC 0 68 2 a K.length c (K.flatMap kvC)::R)∧KeysO g K:=by
 have hS:Sep w [Ch.many R]:=Sep.tail_many (xs:=[]) hS0;clear hS0
 refine enterR Tryz.func81 rfl (N:=5) Tryz.ntmps81 (by show 1≤5;decide) [(0,.func (.func 83) #[] lb)] rfl fun _ h1=>sqr fun _ hK3=>mv h1 rfl fun _ h4=>wpList_nil<|hK3 _ _<|sqr fun _ hK6=>mv h4 rfl fun _ h7=>cl h7 rfl cp_slices_AppendSeq_posix_descriptor_posix_descriptor_qh (appendD_s (g:=g) hS hK hL hl) fun _ v1 w1 r1 h2=>?_
 obtain ⟨Kx9,kax10,kcx11,rfl,s1,hG16⟩:=r1
 refine h2.sk [4,3,0] rfl fun h3=>mv h3 rfl fun _ h5=>h5.sn [2,0] rfl fun h6=>hK6 _ _<|wp_ret ?_
 try simp only [Exit.then,Exit.inBlock]
 refine retR (v:=.slice kax10 Kx9.length kcx11) (res1 h6 rfl rfl) h6.defs ?_
 exact ⟨_,_,_,rfl,Sep.tail_un (xs:=[_]) s1,hG16⟩
theorem sortedD_s {w:World} {R:List Ch} {g:Int×Int→Option (Option Nat)} {lb:Array Value} {L:List (Int×Int)} {F:FsM} (hS0:Sep w R) (hK:KeysD w g lb) (hL:∀ p,wfD p→(g p).isSome=true→p∈L) (hl:L.length≤1000) (hF:∀ {K:List (Int×Int)},KeysO g K→K.Perm (fdsF F)) :
  CallsR Tryz.prog 61 #[.func (.func 83) #[] lb,.func (.func 63) #[] #[]] w fun v w'=>∃ a c,v=.slice a (fdsF F).length c∧Sep w' (ownC 0 68 2 a (fdsF F).length c ((fdsF F).flatMap kvC)::R):=by
 have hS:Sep w [Ch.many R]:=Sep.tail_many (xs:=[]) hS0;clear hS0
 refine enterR Tryz.func61 rfl (N:=12) Tryz.ntmps61 (by show 2≤12;decide) [(0,.func (.func 83) #[] lb),(1,.func (.func 63) #[] #[])] rfl fun _ h1=>sqr fun _ hK3=>mv h1 rfl fun _ h4=>wpList_nil<|hK3 _ _<|sqr fun _ hK6=>mv h4 rfl fun _ h7=>cl h7 rfl cp_slices_Collect_posix_descriptor_qi (collectD_s (g:=g) hS hK hL hl) fun _ v1 w1 r1 h2=>?_
 obtain ⟨Kx9,kax10,kcx11,rfl,s1,hG16⟩:=r1
 refine mv h2 rfl fun _ h3=>h3.sn [5,4,0,1] rfl fun h5=>hK6 _ _<|sqr fun _ hK1=>mvs 2 h5 rfl fun _ h6=>cl h6 rfl cp_slices_SortFunc_posix_descriptor_posix_descriptor_qi (sortD_s (F:=F) s1 (hF hG16)) fun _ v2 w2 r2 h8=>?_
 obtain ⟨rfl,s2⟩:=r2
 refine h8.sn [5,4,0,1] rfl fun h9=>hK1 _ _<|sqr fun _ hK2=>mv h9 rfl fun _ h10=>h10.sk [11,5,0,1] rfl fun h11=>mv h11 rfl fun _ h12=>h12.sn [4,5,0,1] rfl fun h13=>hK2 _ _<|wp_ret ?_
 try simp only [Exit.then,Exit.inBlock]
 refine retR (v:=.slice kax10 Kx9.length kcx11) (res1 h13 rfl rfl) h13.defs ?_
 exact ⟨_,_,by rw [(hF hG16).length_eq],Sep.tail_un (xs:=[_]) s2⟩
theorem keysF {F:FsM} {A:AdM} {δ:Nat→Int} (hF:FsC F δ) {K:List (Int×Int)} (h:KeysO (opG F A) K):K.Perm (fdsF F):=
 (List.perm_ext_iff_of_nodup h.1 (fdsF_nd F)).2 fun p=>by
  rw [h.2,fdsF_mem hF]
  have e:(opG F A p).isSome=(lookO F.O p.1 p.2).isSome:=by unfold opG elA;rw [Option.isSome_map]
  rw [e]
  refine ⟨fun q=>q.2,fun q=>⟨?_,q⟩⟩
  obtain ⟨m,hm⟩:=Option.isSome_iff_exists.1 q
  exact wfO hF hm
theorem keysF_in {F:FsM} {A:AdM} {δ:Nat→Int} (hF:FsC F δ):∀ p,wfD p→(opG F A p).isSome=true→p∈fdsF F:=fun p _ h=>by
 rw [fdsF_mem hF]
 unfold opG elA at h;rw [Option.isSome_map] at h;exact h
end
section
theorem ERw:ElemT Tryz.prog 74 76 6 64:=elemT υ74 (z:=.agg #[ν 0,.string ⟨#[]⟩,ν 0,ν 0,ν 0,.string ⟨#[]⟩]) κ rfl ω
def rowE (r:RowM):List Value:=[ν r.dp,.string r.nm,ν r.cl,ν r.fd,ν r.fl,σ r.dt]
theorem rowE_len (r:RowM):(rowE r).length=6:=rfl
theorem NdP.tellsV {F:FsM} {A:AdM} {w:World} (h:NdP F.nE A.nC w) {V:List Nat} (hV:MkOk F V) {k:Nat} (hk:k<F.N.length):Tells w 62 (flL A V) (A.ad k):=by
 intro p hp
 obtain ⟨q,hq,rfl⟩:=List.mem_map.1 hp
 have hq:=List.mem_range.1 hq
 obtain ⟨v,hv⟩:∃ v,v=V.getD q 0:=⟨_,rfl⟩
 have hl:v<F.N.length:=hV.lt _ (by rw [hv,List.getD_eq_getElem?_getD,List.getElem?_eq_getElem hq];exact List.getElem_mem hq)
 obtain ⟨i,hi,hz⟩:=infoNode
 rw [← hv]
 have key:∀ d,(Op.equalIn (d+1) 62 (π (A.ad k)) (π (A.ad v))).run Tryz.prog w=.ok (decide (A.ad k=A.ad v)) w:=fun d=>by
  by_cases e:k=v
  ·rw [← e]
   simp [Op.equalIn,run_underlying υ62,sizeOf,typeInfo,hi,hz,run_sameAddr_same]
  ·have e2:¬ A.ad k=A.ad v:=fun z=>e (h.inj _ _ hk hl z)
   have hne:(⟨A.ad k,0,none⟩:Addr)≠⟨A.ad v,0,none⟩:=fun z=>e2 (by injection z)
   simp [Op.equalIn,run_underlying υ62,sizeOf,typeInfo,hi,hz,run_sameAddr_other w hne (h.nd k hk) (h.nd v hl),e2]
 exact key 9999
theorem fl_zero (w:World):(zeroValue 3).run Tryz.prog w=.ok (ν 0) w:=κ
section
variable {F:FsM} {A:AdM} {w:World} {V:List Nat} {k fb:Nat}
theorem fl_none (hN:NdP F.nE A.nC w) (hV:MkOk F V) (hk:k<F.N.length) (hm:¬ k∈V):lookP (flL A V) (A.ad k)=none:=by rw [fl_look (A:=A) hV hN.inj hk,if_neg hm]
theorem fl_yes (hP:PMap iV w fb (flL A V)) (hN:NdP F.nE A.nC w) (hV:MkOk F V) (hk:k<F.N.length) (hm:k∈V) {ix:Nat} (e:V.idxOf k=ix):(Instr.lookup 99 (.map (some fb)) (pV (A.ad k)) false).run Tryz.prog w=.ok (ν ((ix+1:Nat):Int)) w:=by
 have z:=hP.look υ99 υ62 (fl_zero w) (hN.tellsV hV hk)
 rw [fl_look (A:=A) hV hN.inj hk,if_pos hm,e] at z;exact z
theorem fl_no (hP:PMap iV w fb (flL A V)) (hN:NdP F.nE A.nC w) (hV:MkOk F V) (hk:k<F.N.length) (hm:¬ k∈V):(Instr.lookup 99 (.map (some fb)) (pV (A.ad k)) false).run Tryz.prog w=.ok (ν 0) w:=by
 have z:=hP.look υ99 υ62 (fl_zero w) (hN.tellsV hV hk)
 rw [fl_none hN hV hk hm] at z;exact z
end
theorem rlenP {α:Type} {av:α→Value} {L:List (Nat×α)} {o:Oper} {a:Act} {N:Nat} {l:List (Nat×Value)} {b:Nat} {w:World} (h:Kn N l a) {x:Operand} {T kt el:TypeId} (ho:o.op=.call { callee:=.builtin .len,args:=#[x],argTypes:=#[T] }) (hx:opv l x=some (.map (some b))) (hP:PMap av w b L) (hT:Tryz.prog.underlying T=some (.map kt el)) {n:Nat} (hl:L.length=n):(execOp a.eval o).run Tryz.prog w=.ok (.value (ν (n:Int))) w:=by
 subst hl
 refine rbuiltin h (xs:=[x]) (vs:=[.map (some b)]) ho (by simp [hx]) fun cs=>?_
 show (builtin .len #[T] o.type cs #[.map (some b)]).run Tryz.prog w=_
 simp only [builtin,Sem.run_bind,hP.len (ty:=o.type) hT]
 rfl
theorem addL_step (F:FsM) (n:Nat) (r:RowM) (k:Nat) (t:Rows) {L:List ByteArray} {j:Nat} (hj:j<L.length):addF F n (subR r (L.getD j noNm)) (childF F k (L.getD j noNm)) (addL F n r k (L.take j) t)=addL F n r k (L.take (j+1)) t:=by
 rw [← addL_snoc,List.take_succ_eq_append_getElem hj,List.getD_eq_getElem?_getD,List.getElem?_eq_getElem hj];rfl
def NilAt (w:World) (f:Value):Prop:=∃ w0:World,w=w0.alloc (.cells #[.map none] 95)∧f=.func (.func 107) #[] #[π w0.heap.size]
theorem keysN_s {w:World} {R:List Ch} (hS:Sep w R):CallsR Tryz.prog 92 #[.map none] w fun v w'=>Sep w' R∧NilAt w' v:=by
 refine ((callsIn_wide (n:=5)).1 (shKmaps_Keys_92 none w)).mono ?_
 rintro e w' ⟨rfl,rfl⟩
 exact ⟨_,rfl,hS.mono (albO _ _),w,rfl,rfl⟩
theorem sortedN_s {w:World} {R:List Ch} {f:Value} (hS:Sep w R) (h:NilAt w f):CallsR Tryz.prog 91 #[f] w fun v w'=>v=.slice none 0 0∧Sep w' R:=by
 obtain ⟨w0,rfl,rfl⟩:=h
 refine ((callsIn_wide (n:=5)).1 (shKslices_Sorted_keys_nil_91_92 w0)).mono ?_
 rintro e w' ⟨v,ss,rfl,hs,_,hn,hb⟩
 exact ⟨_,rfl,hn.2 hs,hS.mono hb⟩
theorem fa_posix_shape_rb0_0 (g off:Nat) (w:World):(Instr.fieldAt 101 (.pointer (some ⟨g,off,none⟩)) 0).run Tryz.prog w=.ok (.pointer (some ⟨g,off+0,none⟩)) w:=rfl
theorem fa_posix_shape_rb0_1 (g off:Nat) (w:World):(Instr.fieldAt 101 (.pointer (some ⟨g,off,none⟩)) 1).run Tryz.prog w=.ok (.pointer (some ⟨g,off+1,none⟩)) w:=rfl
theorem fa_posix_row_rb0_3 (g off:Nat) (w:World):(Instr.fieldAt 76 (.pointer (some ⟨g,off,none⟩)) 3).run Tryz.prog w=.ok (.pointer (some ⟨g,off+4,none⟩)) w:=rfl
theorem fa_posix_row_rb0_4 (g off:Nat) (w:World):(Instr.fieldAt 76 (.pointer (some ⟨g,off,none⟩)) 4).run Tryz.prog w=.ok (.pointer (some ⟨g,off+5,none⟩)) w:=rfl
theorem fa_posix_shape_rb1_0 (g off:Nat) (w:World):(Instr.fieldAt 101 (.pointer (some ⟨g,off,none⟩)) 0).run Tryz.prog w=.ok (.pointer (some ⟨g,off+0,none⟩)) w:=rfl
theorem fa_posix_shape_rb1_1 (g off:Nat) (w:World):(Instr.fieldAt 101 (.pointer (some ⟨g,off,none⟩)) 1).run Tryz.prog w=.ok (.pointer (some ⟨g,off+1,none⟩)) w:=rfl
theorem fa_posix_row_rb1_3 (g off:Nat) (w:World):(Instr.fieldAt 76 (.pointer (some ⟨g,off,none⟩)) 3).run Tryz.prog w=.ok (.pointer (some ⟨g,off+4,none⟩)) w:=rfl
theorem fa_posix_row_rb1_4 (g off:Nat) (w:World):(Instr.fieldAt 76 (.pointer (some ⟨g,off,none⟩)) 4).run Tryz.prog w=.ok (.pointer (some ⟨g,off+5,none⟩)) w:=rfl
theorem fa_posix_row_rd_0 (g off:Nat) (w:World):(Instr.fieldAt 76 (.pointer (some ⟨g,off,none⟩)) 0).run Tryz.prog w=.ok (.pointer (some ⟨g,off+0,none⟩)) w:=rfl
theorem cp_posix_shape_add_rd (args:Array Value) (w:World):(callFunc 60 args).run Tryz.prog w=.ok (.enter 60 args) w:=by
 have h:=Tryz.func60
 go_simp
theorem fa_posix_shape_rd_0 (g off:Nat) (w:World):(Instr.fieldAt 101 (.pointer (some ⟨g,off,none⟩)) 0).run Tryz.prog w=.ok (.pointer (some ⟨g,off+0,none⟩)) w:=rfl
theorem sortedF_c {w:World} {cf ob:Nat} {F:FsM} {A:AdM} {R:List Ch} {δ:Nat→Int} {k0:Nat} (hS0:Sep w ((cP cf ob F A)++R)) (hok:FsC F δ) (hz:SmF F) (hk0:k0<F.N.length) (hd0:F.dir k0=false) :
  CallsR Tryz.prog 80 #[π (A.ad k0)] w (fun v w'=>v=.slice none 0 0∧Sep w' ((cP cf ob F A)++R)):=by
 have hS:=Sep.tail_many (xs:=cP cf ob F A) hS0;clear hS0
 have hz0:=hz;obtain ⟨hz1,hz2,hz3⟩:F.N.length≤1000∧F.E.length≤1000∧F.O.length≤1000:=hz
 refine enterR Tryz.func80 rfl (N:=9) Tryz.ntmps80 (by show 1≤9;decide) [(0,π (A.ad k0))] rfl fun _ h1=>sqr fun _ hK3=>mv h1 rfl fun _ h4=>wpList_nil<|hK3 _ _<|sqr fun _ hK6=>mvs 2 h4 rfl fun _ h9=>sv1 h9 rfl (v:=.pointer (some ⟨(A.ad k0),3,none⟩)) (rfa h9 rfl rfl (fun w=>fz_posix_node_3 (A.ad k0) 0 w)) fun _ h2=>sw1 h2 rfl (v:=.map none) (rld h2 rfl rfl (NdP.c3n (F:=FsM.nE F) (A:=AdM.nC A) (k:=k0) (hS.get 1 rfl:NdP _ _ _) (show k0<F.N.length from ω) hd0 υ95 rfl)) fun _ h3=>cl h3 rfl cz_maps_Keys_map_string_posix_node_string_posix_node (keysN_s hS) fun _ v1 w1 r1 h5=>?_
 obtain ⟨s1,hky21⟩:=r1
 refine cl h5 rfl cz_slices_Sorted_string (sortedN_s s1 hky21) fun _ v2 w2 r2 h6=>?_
 obtain ⟨rfl,s2⟩:=r2
 refine h6.sk [8,7,6,5,4,3,0] rfl fun h7=>mv h7 rfl fun _ h8=>h8.sn [2,0] rfl fun h10=>hK6 _ _<|wp_ret ?_
 try simp only [Exit.then,Exit.inBlock]
 refine retR (v:=.slice none 0 0) (res1 h10 rfl rfl) h10.defs ?_
 exact ⟨rfl,Sep.tail_un (xs:=[_,_,_]) s2⟩
theorem addOld_c {w:World} {cf ob:Nat} {F:FsM} {A:AdM} {R:List Ch} {δ:Nat→Int} {sg fb:Nat} {ra:Option Addr} {rc:Nat} {s:Rows} {r:RowM} {k:Nat} (hS0:Sep w ([blkC sg 101 [.slice ra s.1.length rc,.map (some fb)],ownC 0 76 6 ra s.1.length rc (s.1.flatMap rowE),pmC iV fb (flL A s.2),blkC cf 65 [π (A.ad 0),.map (some ob)],nodX F A,mapC KO ob A.C (opG F A)]++R)) (hok:FsC F δ) (hz:SmF F) (hkl:k<F.N.length) (hMk:MkOk F s.2) (hd:F.dir k=false) (hm:k∈s.2) (hr:s.1.length≤4000) :
  CallsR Tryz.prog 60 #[π sg,.agg #[ν r.dp,.string r.nm,ν r.cl,ν r.fd,ν r.fl,σ r.dt],π (A.ad k)] w (fun v w'=>∃ ra' rc',v=.tuple #[]∧Sep w' ([blkC sg 101 [.slice ra' ((headF F r k s).1.length) rc',.map (some fb)],ownC 0 76 6 ra' ((headF F r k s).1).length rc' (((headF F r k s).1).flatMap rowE),pmC iV fb (flL A (headF F r k s).2),blkC cf 65 [π (A.ad 0),.map (some ob)],nodX F A,mapC KO ob A.C (opG F A)]++R)):=by
 have hS:Sep w [blkC sg 101 [.slice ra s.1.length rc,.map (some fb)],ownC 0 76 6 ra s.1.length rc (s.1.flatMap rowE),pmC iV fb (flL A s.2),blkC cf 65 [π (A.ad 0),.map (some ob)],nodX F A,mapC KO ob A.C (opG F A),Ch.many R]:=Sep.tail_many (xs:=[_,_,_,_,_,_]) hS0;clear hS0
 have hz0:=hz;obtain ⟨hz1,hz2,hz3⟩:F.N.length≤1000∧F.E.length≤1000∧F.O.length≤1000:=hz
 have hMl:=hMk.len
 obtain ⟨ix,hix⟩:∃ x,s.2.idxOf k=x:=⟨_,rfl⟩
 refine enterR Tryz.func60 rfl (N:=74) Tryz.ntmps60 (by show 3≤74;decide) [(0,π sg),(1,.agg #[ν r.dp,.string r.nm,ν r.cl,ν r.fd,ν r.fl,σ r.dt]),(2,π (A.ad k))] rfl fun _ h1=>sqr fun _ hK3=>so (wn rfl) fun _ hK1=>xbox h1 rfl rfl rfl rfl rfl (z:=[ν r.dp,.string r.nm,ν r.cl,ν r.fd,ν r.fl,σ r.dt]) rfl hS fun _ g4 w7 h5 s8 _ _=>hK1 _ _ ?_
 refine wpList_nil<|hK3 _ _<|sq fun K1 hK2=>?_
 have hJ13:∀  a' w',Kn 74 [(4,π g4),(0,π sg),(1,.agg #[ν r.dp,.string r.nm,ν r.cl,ν r.fd,ν r.fl,σ r.dt]),(2,π (A.ad k))] a'→Sep w' [blkC g4 76 [ν r.dp,.string r.nm,ν r.cl,ν r.fd,ν ((ix+1:Nat):Int),σ ((F.at k).data)],blkC sg 101 [.slice ra s.1.length rc,.map (some fb)],ownC 0 76 6 ra s.1.length rc (s.1.flatMap rowE),pmC iV fb (flL A s.2),blkC cf 65 [π (A.ad 0),.map (some ob)],nodX F A,mapC KO ob A.C (opG F A),Ch.many R]→K1 a' w':=by
  intro a1 w2 h2 s1
  refine hK2 _ _ ?_
  refine sq fun K2 hK4=>?_
  have hJ19:∀ (p5:Option Addr) (c5:Nat) a' w',Kn 74 [(4,π g4),(0,π sg),(1,.agg #[ν r.dp,.string r.nm,ν r.cl,ν r.fd,ν r.fl,σ r.dt]),(2,π (A.ad k))] a'→Sep w' [blkC g4 76 [ν r.dp,.string r.nm,ν r.cl,ν r.fd,ν ((ix+1:Nat):Int),σ ((F.at k).data)],blkC sg 101 [.slice p5 ((s.1++[(⟨r.dp,r.nm,r.cl,r.fd,((ix+1:Nat):Int),(F.at k).data⟩:RowM)]).length) c5,.map (some fb)],ownC 0 76 6 p5 (s.1++[(⟨r.dp,r.nm,r.cl,r.fd,((ix+1:Nat):Int),(F.at k).data⟩:RowM)]).length c5 ((s.1++[(⟨r.dp,r.nm,r.cl,r.fd,((ix+1:Nat):Int),(F.at k).data⟩:RowM)]).flatMap rowE),pmC iV fb (flL A s.2),blkC cf 65 [π (A.ad 0),.map (some ob)],nodX F A,mapC KO ob A.C (opG F A),Ch.many R]→K2 a' w':=by
   intro p5 c5 a2 w3 h3 s2
   refine hK4 _ _ ?_
   refine sqr fun _ hK5=>mv h3 rfl fun _ h4=>cl h4 rfl cz_posix_node_sorted (sortedF_c (cf:=cf) (A:=A) (F:=F) (s2.pk [4,5,6,0,1,2,3,7] rfl) hok hz0 hkl hd) fun _ v1 w4 r1 h6=>?_
   obtain ⟨rfl,s3⟩:=r1
   refine sv1 h6 rfl (v:=ν 0) (rlenS h6 rfl rfl υ33) fun _ h7=>mv h7 rfl fun _ h8=>h8.sn [56,55,54,4,0,1,2] rfl fun h9=>hK5 _ _<|wp_block ?_
   refine wp_loop1 (fun (z:Nat) a' w'=>Kn 74 [(56,ν 0),(55,ν 0),(54,.slice none 0 0),(4,π g4),(0,π sg),(1,.agg #[ν r.dp,.string r.nm,ν r.cl,ν r.fd,ν r.fl,σ r.dt]),(2,π (A.ad k))] a'∧Sep w' [blkC cf 65 [π (A.ad 0),.map (some ob)],nodX F A,mapC KO ob A.C (opG F A),blkC g4 76 [ν r.dp,.string r.nm,ν r.cl,ν r.fd,ν ((ix+1:Nat):Int),σ ((F.at k).data)],blkC sg 101 [.slice p5 ((s.1++[(⟨r.dp,r.nm,r.cl,r.fd,((ix+1:Nat):Int),(F.at k).data⟩:RowM)]).length) c5,.map (some fb)],ownC 0 76 6 p5 (s.1++[(⟨r.dp,r.nm,r.cl,r.fd,((ix+1:Nat):Int),(F.at k).data⟩:RowM)]).length c5 ((s.1++[(⟨r.dp,r.nm,r.cl,r.fd,((ix+1:Nat):Int),(F.at k).data⟩:RowM)]).flatMap rowE),pmC iV fb (flL A s.2),Ch.many R]) (fun (z:Nat)=>0) 0 ⟨h9.subs rfl,s3⟩ ?_
   rintro z44 a3 w5 ⟨h10,s4⟩ K3 hK6
   refine sqr fun _ hK7=>bv h10 rfl (cLt _ _ _ _ rfl) fun _ h11=>wpList_nil<|hK7 _ _<|sq fun _ hK8=>wcF h11 rfl rfl<|h11.sk [56,55,54,4,0,1,2] rfl fun h12=>wp_exit ?_
   simp only [Exit.then,Exit.inBlock,↓reduceIte,Nat.reduceEqDiff]
   refine endR (v:=.tuple #[]) (fun _=>res0 rfl _) h12.defs ?_
   rw [headF_old hd r s hm,hix]
   exact ⟨_,_,rfl,Sep.tail_un (xs:=[_,_,_,_,_,_]) (s4.pk [4,5,6,0,1,2,7] rfl)⟩
  have s5:=s1.drew
  refine wp_region_held_drew (S:=fun w'=>Sep w' [blkC g4 76 [ν r.dp,.string r.nm,ν r.cl,ν r.fd,ν ((ix+1:Nat):Int),σ ((F.at k).data)],pmC iV fb (flL A s.2),blkC cf 65 [π (A.ad 0),.map (some ob)],nodX F A,mapC KO ob A.C (opG F A),Ch.many R]) κ (s5.pk [0,3,4,5,6,7] rfl) (fun hq1=>?_)
  refine tv1 hq1 h2 0 rfl rfl (v:=π sg) (fun w1 _=>(rmove h2 rfl rfl) w1) fun _ h13=>?_
  refine tv1 hq1 h13 1 rfl rfl (v:=π sg) (fun w1 _=>(rmove h13 rfl rfl) w1) fun _ h14=>?_
  refine tv1 hq1 h14 2 rfl rfl (v:=π sg) (fun w1 _=>(rnil h14 rfl rfl) w1) fun _ h15=>?_
  refine tv1 hq1 h15 3 rfl rfl (v:=π sg) (fun w1 _=>(rfa h15 rfl rfl (fun w=>fa_posix_shape_rb0_0 sg 0 w)) w1) fun _ h16=>?_
  refine tv1 hq1 h16 5 rfl rfl (v:=.agg #[ν r.dp,.string r.nm,ν r.cl,ν r.fd,ν ((ix+1:Nat):Int),σ ((F.at k).data)]) (fun w1 hSw=>(rld h16 rfl rfl (ldA υ76 rfl (n:=6) κ (hSw.get 0 rfl:Blk _ _ _ _) rfl rfl))) fun _ h17=>?_
  refine wpAnyH_ready (rs:=[4,6]) κ (by simp) (toc rfl (wn rfl) (fun K4 hK9=>?_) (toc rfl (wn rfl) (fun K4 hK9=>?_) AllReadyH.nil))
  ·skip
   refine xval h17 rfl rfl rfl (v:=.slice ra s.1.length rc) (w':=w2.drew) ((rld h17 rfl rfl (ldB υ74 rfl (s5.get 1 rfl:Blk _ _ _ _) rfl))) fun _ h18=>hK9 _ _ (s5.pk [0,3,4,5,6,7] rfl) fun hq2=>?_
   refine to_ 6 rfl (wn rfl) κ fun _ hK10=>xbuildS h18 rfl rfl rfl (E:=76) (xs:=[(0,.tmp 48)]) rfl (vs:=[(0,.agg #[ν r.dp,.string r.nm,ν r.cl,ν r.fd,ν ((ix+1:Nat):Int),σ ((F.at k).data)])]) rfl (z:=[ν r.dp,.string r.nm,ν r.cl,ν r.fd,ν ((ix+1:Nat):Int),σ ((F.at k).data)]) (fun _=>κ) s5 fun _ g1 w6 h19 s6 _ _=>?_
   refine hK10 _ _ (s6.pk [1,4,5,6,7,8] rfl) fun hq3=>?_
   refine to_ 7 rfl (wn rfl) κ fun _ hK11=>xappS rowE_len h19 rfl rfl rfl rfl ERw s6 3 rfl rfl 0 (y:=(⟨r.dp,r.nm,r.cl,r.fd,((ix+1:Nat):Int),(F.at k).data⟩:RowM)) rfl rfl rfl (by decide) ω (L':=s.1++[(⟨r.dp,r.nm,r.cl,r.fd,((ix+1:Nat):Int),(F.at k).data⟩:RowM)]) rfl fun _ p76 c77 w8 h20 s7=>?_
   have s9:=s7.pk [1,2,3,4,5,6,7,8] rfl;clear s7
   refine hK11 _ _ (s9.pk [0,3,4,5,6,7] rfl) fun hq4=>?_
   refine tv1 hq4 h20 8 rfl rfl (v:=π sg) (fun w1 _=>(rnil h20 rfl rfl) w1) fun _ h21=>?_
   refine tv1 hq4 h21 9 rfl rfl (v:=π sg) (fun w1 _=>(rfa h21 rfl rfl (fun w=>fa_posix_shape_rb0_0 sg 0 w)) w1) fun _ h22=>?_
   refine to_ 10 rfl (wn rfl) κ fun _ hK12=>xstore h22 rfl rfl s9 1 rfl rfl rfl [.slice p76 ((s.1++[(⟨r.dp,r.nm,r.cl,r.fd,((ix+1:Nat):Int),(F.at k).data⟩:RowM)]).length) c77] rfl κ rfl (by show 0+1≤2;decide) (L':=[.slice p76 ((s.1++[(⟨r.dp,r.nm,r.cl,r.fd,((ix+1:Nat):Int),(F.at k).data⟩:RowM)]).length) c77,.map (some fb)]) rfl (cs':=[blkC g4 76 [ν r.dp,.string r.nm,ν r.cl,ν r.fd,ν ((ix+1:Nat):Int),σ ((F.at k).data)],blkC sg 101 [.slice p76 ((s.1++[(⟨r.dp,r.nm,r.cl,r.fd,((ix+1:Nat):Int),(F.at k).data⟩:RowM)]).length) c77,.map (some fb)],ownC 0 76 6 p76 (s.1++[(⟨r.dp,r.nm,r.cl,r.fd,((ix+1:Nat):Int),(F.at k).data⟩:RowM)]).length c77 ((s.1++[(⟨r.dp,r.nm,r.cl,r.fd,((ix+1:Nat):Int),(F.at k).data⟩:RowM)]).flatMap rowE),pmC iV fb (flL A s.2),blkC cf 65 [π (A.ad 0),.map (some ob)],nodX F A,mapC KO ob A.C (opG F A),Ch.many R]) rfl fun _ w9 h23 s10 _=>?_
   refine hK12 _ _ (s10.pk [0,3,4,5,6,7] rfl) fun hq5=>h23.sk [4,0,1,2] rfl fun h24=>?_
   refine wpAnyH_done κ ?_ _
   exact hJ19 p76 c77 _ _ (h24.subs rfl) s10 
  ·skip
   refine xbuildS h17 rfl rfl rfl (E:=76) (xs:=[(0,.tmp 48)]) rfl (vs:=[(0,.agg #[ν r.dp,.string r.nm,ν r.cl,ν r.fd,ν ((ix+1:Nat):Int),σ ((F.at k).data)])]) rfl (z:=[ν r.dp,.string r.nm,ν r.cl,ν r.fd,ν ((ix+1:Nat):Int),σ ((F.at k).data)]) (fun _=>κ) s5 fun _ g2 w10 h25 s11 _ _=>hK9 _ _ (s11.pk [1,4,5,6,7,8] rfl) fun hq6=>?_
   refine to_ 4 rfl (wn rfl) κ fun _ hK13=>xval h25 rfl rfl rfl (v:=.slice ra s.1.length rc) (w':=w10) ((rld h25 rfl rfl (ldB υ74 rfl (s11.get 2 rfl:Blk _ _ _ _) rfl))) fun _ h26=>hK13 _ _ (s11.pk [1,4,5,6,7,8] rfl) fun hq7=>?_
   refine to_ 7 rfl (wn rfl) κ fun _ hK14=>xappS rowE_len h26 rfl rfl rfl rfl ERw s11 3 rfl rfl 0 (y:=(⟨r.dp,r.nm,r.cl,r.fd,((ix+1:Nat):Int),(F.at k).data⟩:RowM)) rfl rfl rfl (by decide) ω (L':=s.1++[(⟨r.dp,r.nm,r.cl,r.fd,((ix+1:Nat):Int),(F.at k).data⟩:RowM)]) rfl fun _ p109 c110 w11 h27 s12=>?_
   have s13:=s12.pk [1,2,3,4,5,6,7,8] rfl;clear s12
   refine hK14 _ _ (s13.pk [0,3,4,5,6,7] rfl) fun hq8=>?_
   refine tv1 hq8 h27 8 rfl rfl (v:=π sg) (fun w1 _=>(rnil h27 rfl rfl) w1) fun _ h28=>?_
   refine tv1 hq8 h28 9 rfl rfl (v:=π sg) (fun w1 _=>(rfa h28 rfl rfl (fun w=>fa_posix_shape_rb0_0 sg 0 w)) w1) fun _ h29=>?_
   refine to_ 10 rfl (wn rfl) κ fun _ hK15=>xstore h29 rfl rfl s13 1 rfl rfl rfl [.slice p109 ((s.1++[(⟨r.dp,r.nm,r.cl,r.fd,((ix+1:Nat):Int),(F.at k).data⟩:RowM)]).length) c110] rfl κ rfl (by show 0+1≤2;decide) (L':=[.slice p109 ((s.1++[(⟨r.dp,r.nm,r.cl,r.fd,((ix+1:Nat):Int),(F.at k).data⟩:RowM)]).length) c110,.map (some fb)]) rfl (cs':=[blkC g4 76 [ν r.dp,.string r.nm,ν r.cl,ν r.fd,ν ((ix+1:Nat):Int),σ ((F.at k).data)],blkC sg 101 [.slice p109 ((s.1++[(⟨r.dp,r.nm,r.cl,r.fd,((ix+1:Nat):Int),(F.at k).data⟩:RowM)]).length) c110,.map (some fb)],ownC 0 76 6 p109 (s.1++[(⟨r.dp,r.nm,r.cl,r.fd,((ix+1:Nat):Int),(F.at k).data⟩:RowM)]).length c110 ((s.1++[(⟨r.dp,r.nm,r.cl,r.fd,((ix+1:Nat):Int),(F.at k).data⟩:RowM)]).flatMap rowE),pmC iV fb (flL A s.2),blkC cf 65 [π (A.ad 0),.map (some ob)],nodX F A,mapC KO ob A.C (opG F A),Ch.many R]) rfl fun _ w12 h30 s14 _=>?_
   refine hK15 _ _ (s14.pk [0,3,4,5,6,7] rfl) fun hq9=>h30.sk [4,0,1,2] rfl fun h31=>?_
   refine wpAnyH_done κ ?_ _
   exact hJ19 p109 c110 _ _ (h31.subs rfl) s14 
 refine sqr fun _ hK16=>mvs 2 h5 rfl fun _ h32=>sv1 h32 rfl (v:=π (A.ad k)) (rfa h32 rfl rfl (fun w=>fz_posix_node_0 (A.ad k) 0 w)) fun _ h33=>sw1 h33 rfl (v:=ν (kindI (F.dir k))) (rld h33 rfl rfl (NdP.c0 (F:=FsM.nE F) (A:=AdM.nC A) (k:=k) (s8.get 5 rfl:NdP _ _ _) (show k<F.N.length from ω) υ3 rfl)) fun _ h34=>bv h34 (z:=.bool (!(F.dir k))) rfl (cEq _ _ _ _ (kind1 _)) fun _ h35=>h35.sn [12,4,0,1,2] rfl fun h36=>hK16 _ _<|wcT h36 rfl (bNotF hd)<|h36.sk [4,0,1,2] rfl fun h37=>sq fun _ hK17=>sq fun _ hK18=>wp_region_lit ?_
 refine mvs 2 h37 rfl fun _ h38=>fav h38 rfl (fa_posix_shape_rb0_1 _ _) fun _ h39=>ldv h39 s8 1 υ99 rfl rfl rfl rfl fun _ h40=>mv h40 rfl fun _ h41=>sw1 h41 rfl (v:=ν ((ix+1:Nat):Int)) (rlook h41 rfl rfl rfl (fl_yes (s8.get 3 rfl:PMap _ _ _ _) (s8.get 5 rfl:NdP _ _ _) hMk hkl hm hix)) fun _ h42=>bv h42 rfl (cEq _ _ _ _ (decide_eq_false ω)) fun _ h43=>h43.sn [19,4,0,1,2] rfl fun h44=>hK18 _ _<|wcF h44 rfl rfl<|h44.sk [4,0,1,2] rfl fun h45=>?_
 refine wp_skip<|hK17 _ _ ?_
 have s15:=s8.drew
 refine wp_region_held_drew (S:=fun w'=>Sep w' [blkC sg 101 [.slice ra s.1.length rc,.map (some fb)],ownC 0 76 6 ra s.1.length rc (s.1.flatMap rowE),pmC iV fb (flL A s.2),blkC cf 65 [π (A.ad 0),.map (some ob)],nodX F A,mapC KO ob A.C (opG F A),Ch.many R]) κ (s15.pk [1,2,3,4,5,6,7] rfl) (fun hq10=>?_)
 refine tv1 hq10 h45 0 rfl rfl (v:=π sg) (fun w1 _=>(rmove h45 rfl rfl) w1) fun _ h46=>?_
 refine tv1 hq10 h46 1 rfl rfl (v:=π sg) (fun w1 _=>(rnil h46 rfl rfl) w1) fun _ h47=>?_
 refine tv1 hq10 h47 2 rfl rfl (v:=.pointer (some ⟨sg,1,none⟩)) (fun w1 _=>(rfa h47 rfl rfl (fun w=>fa_posix_shape_rb0_1 sg 0 w)) w1) fun _ h48=>?_
 refine tv1 hq10 h48 3 rfl rfl (v:=.map (some fb)) (fun w1 hSw=>(rld h48 rfl rfl (ldB υ99 rfl (hSw.get 0 rfl:Blk _ _ _ _) rfl))) fun _ h49=>?_
 refine tv1 hq10 h49 4 rfl rfl (v:=π (A.ad k)) (fun w1 _=>(rmove h49 rfl rfl) w1) fun _ h50=>?_
 refine tv1 hq10 h50 6 rfl rfl (v:=π (A.ad k)) (fun w1 _=>(rmove h50 rfl rfl) w1) fun _ h51=>?_
 refine tv1 hq10 h51 7 rfl rfl (v:=π (A.ad k)) (fun w1 _=>(rnil h51 rfl rfl) w1) fun _ h52=>?_
 refine tv1 hq10 h52 8 rfl rfl (v:=.pointer (some ⟨(A.ad k),2,none⟩)) (fun w1 _=>(rfa h52 rfl rfl (fun w=>fz_posix_node_2 (A.ad k) 0 w)) w1) fun _ h53=>?_
 refine wpAnyH_ready (rs:=[5,9]) κ (by simp) (toc rfl (wn rfl) (fun K5 hK19=>?_) (toc rfl (wn rfl) (fun K5 hK19=>?_) AllReadyH.nil))
 ·skip
  refine xval h53 rfl rfl rfl (v:=ν ((ix+1:Nat):Int)) (w':=w7.drew) ((rlook h53 rfl rfl rfl (fl_yes (s15.get 3 rfl:PMap _ _ _ _) (s15.get 5 rfl:NdP _ _ _) hMk hkl hm hix))) fun _ h54=>hK19 _ _ (s15.pk [1,2,3,4,5,6,7] rfl) fun hq11=>?_
  refine tv1 hq11 h54 10 rfl rfl (v:=.pointer (some ⟨g4,4,none⟩)) (fun w1 _=>(rfa h54 rfl rfl (fun w=>fa_posix_row_rb0_3 g4 0 w)) w1) fun _ h55=>?_
  refine wpAnyH_ready (rs:=[9,11]) κ (by simp) (toc rfl (wn rfl) (fun K6 hK20=>?_) (toc rfl (wn rfl) (fun K6 hK20=>?_) AllReadyH.nil))
  ·skip
   refine xval h55 rfl rfl rfl (v:=σ ((F.at k).data)) (w':=w7.drew) ((rld h55 rfl rfl (NdP.c2 (F:=FsM.nE F) (A:=AdM.nC A) (k:=k) (s15.get 5 rfl:NdP _ _ _) (show k<F.N.length from ω) υ9 rfl))) fun _ h56=>hK20 _ _ (s15.pk [1,2,3,4,5,6,7] rfl) fun hq12=>?_
   refine to_ 11 rfl (wn rfl) κ fun _ hK21=>xstore h56 rfl rfl s15 0 rfl rfl rfl [ν ((ix+1:Nat):Int)] rfl κ rfl (by show 4+1≤6;decide) (L':=[ν r.dp,.string r.nm,ν r.cl,ν r.fd,ν ((ix+1:Nat):Int),σ r.dt]) rfl (cs':=[blkC g4 76 [ν r.dp,.string r.nm,ν r.cl,ν r.fd,ν ((ix+1:Nat):Int),σ r.dt],blkC sg 101 [.slice ra s.1.length rc,.map (some fb)],ownC 0 76 6 ra s.1.length rc (s.1.flatMap rowE),pmC iV fb (flL A s.2),blkC cf 65 [π (A.ad 0),.map (some ob)],nodX F A,mapC KO ob A.C (opG F A),Ch.many R]) rfl fun _ w13 h57 s16 _=>?_
   refine hK21 _ _ (s16.pk [1,2,3,4,5,6,7] rfl) fun hq13=>?_
   refine tv1 hq13 h57 12 rfl rfl (v:=.pointer (some ⟨g4,5,none⟩)) (fun w1 _=>(rfa h57 rfl rfl (fun w=>fa_posix_row_rb0_4 g4 0 w)) w1) fun _ h58=>?_
   refine to_ 13 rfl (wn rfl) κ fun _ hK22=>xstore h58 rfl rfl s16 0 rfl rfl rfl [σ ((F.at k).data)] rfl κ rfl (by show 5+1≤6;decide) (L':=[ν r.dp,.string r.nm,ν r.cl,ν r.fd,ν ((ix+1:Nat):Int),σ ((F.at k).data)]) rfl (cs':=[blkC g4 76 [ν r.dp,.string r.nm,ν r.cl,ν r.fd,ν ((ix+1:Nat):Int),σ ((F.at k).data)],blkC sg 101 [.slice ra s.1.length rc,.map (some fb)],ownC 0 76 6 ra s.1.length rc (s.1.flatMap rowE),pmC iV fb (flL A s.2),blkC cf 65 [π (A.ad 0),.map (some ob)],nodX F A,mapC KO ob A.C (opG F A),Ch.many R]) rfl fun _ w14 h59 s17 _=>?_
   refine hK22 _ _ (s17.pk [1,2,3,4,5,6,7] rfl) fun hq14=>h59.sk [4,0,1,2] rfl fun h60=>?_
   refine wpAnyH_done κ ?_ _
   exact hJ13  _ _ (h60.subs rfl) s17 
  ·skip
   refine xstore h55 rfl rfl s15 0 rfl rfl rfl [ν ((ix+1:Nat):Int)] rfl κ rfl (by show 4+1≤6;decide) (L':=[ν r.dp,.string r.nm,ν r.cl,ν r.fd,ν ((ix+1:Nat):Int),σ r.dt]) rfl (cs':=[blkC g4 76 [ν r.dp,.string r.nm,ν r.cl,ν r.fd,ν ((ix+1:Nat):Int),σ r.dt],blkC sg 101 [.slice ra s.1.length rc,.map (some fb)],ownC 0 76 6 ra s.1.length rc (s.1.flatMap rowE),pmC iV fb (flL A s.2),blkC cf 65 [π (A.ad 0),.map (some ob)],nodX F A,mapC KO ob A.C (opG F A),Ch.many R]) rfl fun _ w15 h61 s18 _=>hK20 _ _ (s18.pk [1,2,3,4,5,6,7] rfl) fun hq15=>?_
   refine to_ 9 rfl (wn rfl) κ fun _ hK23=>xval h61 rfl rfl rfl (v:=σ ((F.at k).data)) (w':=w15) ((rld h61 rfl rfl (NdP.c2 (F:=FsM.nE F) (A:=AdM.nC A) (k:=k) (s18.get 5 rfl:NdP _ _ _) (show k<F.N.length from ω) υ9 rfl))) fun _ h62=>hK23 _ _ (s18.pk [1,2,3,4,5,6,7] rfl) fun hq16=>?_
   refine tv1 hq16 h62 12 rfl rfl (v:=.pointer (some ⟨g4,5,none⟩)) (fun w1 _=>(rfa h62 rfl rfl (fun w=>fa_posix_row_rb0_4 g4 0 w)) w1) fun _ h63=>?_
   refine to_ 13 rfl (wn rfl) κ fun _ hK24=>xstore h63 rfl rfl s18 0 rfl rfl rfl [σ ((F.at k).data)] rfl κ rfl (by show 5+1≤6;decide) (L':=[ν r.dp,.string r.nm,ν r.cl,ν r.fd,ν ((ix+1:Nat):Int),σ ((F.at k).data)]) rfl (cs':=[blkC g4 76 [ν r.dp,.string r.nm,ν r.cl,ν r.fd,ν ((ix+1:Nat):Int),σ ((F.at k).data)],blkC sg 101 [.slice ra s.1.length rc,.map (some fb)],ownC 0 76 6 ra s.1.length rc (s.1.flatMap rowE),pmC iV fb (flL A s.2),blkC cf 65 [π (A.ad 0),.map (some ob)],nodX F A,mapC KO ob A.C (opG F A),Ch.many R]) rfl fun _ w16 h64 s19 _=>?_
   refine hK24 _ _ (s19.pk [1,2,3,4,5,6,7] rfl) fun hq17=>h64.sk [4,0,1,2] rfl fun h65=>?_
   refine wpAnyH_done κ ?_ _
   exact hJ13  _ _ (h65.subs rfl) s19 
 ·skip
  refine xval h53 rfl rfl rfl (v:=σ ((F.at k).data)) (w':=w7.drew) ((rld h53 rfl rfl (NdP.c2 (F:=FsM.nE F) (A:=AdM.nC A) (k:=k) (s15.get 5 rfl:NdP _ _ _) (show k<F.N.length from ω) υ9 rfl))) fun _ h66=>hK19 _ _ (s15.pk [1,2,3,4,5,6,7] rfl) fun hq18=>?_
  refine to_ 5 rfl (wn rfl) κ fun _ hK25=>xval h66 rfl rfl rfl (v:=ν ((ix+1:Nat):Int)) (w':=w7.drew) ((rlook h66 rfl rfl rfl (fl_yes (s15.get 3 rfl:PMap _ _ _ _) (s15.get 5 rfl:NdP _ _ _) hMk hkl hm hix))) fun _ h67=>hK25 _ _ (s15.pk [1,2,3,4,5,6,7] rfl) fun hq19=>?_
  refine tv1 hq19 h67 10 rfl rfl (v:=.pointer (some ⟨g4,4,none⟩)) (fun w1 _=>(rfa h67 rfl rfl (fun w=>fa_posix_row_rb0_3 g4 0 w)) w1) fun _ h68=>?_
  refine to_ 11 rfl (wn rfl) κ fun _ hK26=>xstore h68 rfl rfl s15 0 rfl rfl rfl [ν ((ix+1:Nat):Int)] rfl κ rfl (by show 4+1≤6;decide) (L':=[ν r.dp,.string r.nm,ν r.cl,ν r.fd,ν ((ix+1:Nat):Int),σ r.dt]) rfl (cs':=[blkC g4 76 [ν r.dp,.string r.nm,ν r.cl,ν r.fd,ν ((ix+1:Nat):Int),σ r.dt],blkC sg 101 [.slice ra s.1.length rc,.map (some fb)],ownC 0 76 6 ra s.1.length rc (s.1.flatMap rowE),pmC iV fb (flL A s.2),blkC cf 65 [π (A.ad 0),.map (some ob)],nodX F A,mapC KO ob A.C (opG F A),Ch.many R]) rfl fun _ w17 h69 s20 _=>?_
  refine hK26 _ _ (s20.pk [1,2,3,4,5,6,7] rfl) fun hq20=>?_
  refine tv1 hq20 h69 12 rfl rfl (v:=.pointer (some ⟨g4,5,none⟩)) (fun w1 _=>(rfa h69 rfl rfl (fun w=>fa_posix_row_rb0_4 g4 0 w)) w1) fun _ h70=>?_
  refine to_ 13 rfl (wn rfl) κ fun _ hK27=>xstore h70 rfl rfl s20 0 rfl rfl rfl [σ ((F.at k).data)] rfl κ rfl (by show 5+1≤6;decide) (L':=[ν r.dp,.string r.nm,ν r.cl,ν r.fd,ν ((ix+1:Nat):Int),σ ((F.at k).data)]) rfl (cs':=[blkC g4 76 [ν r.dp,.string r.nm,ν r.cl,ν r.fd,ν ((ix+1:Nat):Int),σ ((F.at k).data)],blkC sg 101 [.slice ra s.1.length rc,.map (some fb)],ownC 0 76 6 ra s.1.length rc (s.1.flatMap rowE),pmC iV fb (flL A s.2),blkC cf 65 [π (A.ad 0),.map (some ob)],nodX F A,mapC KO ob A.C (opG F A),Ch.many R]) rfl fun _ w18 h71 s21 _=>?_
  refine hK27 _ _ (s21.pk [1,2,3,4,5,6,7] rfl) fun hq21=>h71.sk [4,0,1,2] rfl fun h72=>?_
  refine wpAnyH_done κ ?_ _
  exact hJ13  _ _ (h72.subs rfl) s21 
theorem addNew_c {w:World} {cf ob:Nat} {F:FsM} {A:AdM} {R:List Ch} {δ:Nat→Int} {sg fb:Nat} {ra:Option Addr} {rc:Nat} {s:Rows} {r:RowM} {k:Nat} (hS0:Sep w ([blkC sg 101 [.slice ra s.1.length rc,.map (some fb)],ownC 0 76 6 ra s.1.length rc (s.1.flatMap rowE),pmC iV fb (flL A s.2),blkC cf 65 [π (A.ad 0),.map (some ob)],nodX F A,mapC KO ob A.C (opG F A)]++R)) (hok:FsC F δ) (hz:SmF F) (hkl:k<F.N.length) (hMk:MkOk F s.2) (hd:F.dir k=false) (hm:¬ k∈s.2) (hr:s.1.length≤4000) :
  CallsR Tryz.prog 60 #[π sg,.agg #[ν r.dp,.string r.nm,ν r.cl,ν r.fd,ν r.fl,σ r.dt],π (A.ad k)] w (fun v w'=>∃ ra' rc',v=.tuple #[]∧Sep w' ([blkC sg 101 [.slice ra' ((headF F r k s).1.length) rc',.map (some fb)],ownC 0 76 6 ra' ((headF F r k s).1).length rc' (((headF F r k s).1).flatMap rowE),pmC iV fb (flL A (headF F r k s).2),blkC cf 65 [π (A.ad 0),.map (some ob)],nodX F A,mapC KO ob A.C (opG F A)]++R)):=by
 have hS:Sep w [blkC sg 101 [.slice ra s.1.length rc,.map (some fb)],ownC 0 76 6 ra s.1.length rc (s.1.flatMap rowE),pmC iV fb (flL A s.2),blkC cf 65 [π (A.ad 0),.map (some ob)],nodX F A,mapC KO ob A.C (opG F A),Ch.many R]:=Sep.tail_many (xs:=[_,_,_,_,_,_]) hS0;clear hS0
 have hz0:=hz;obtain ⟨hz1,hz2,hz3⟩:F.N.length≤1000∧F.E.length≤1000∧F.O.length≤1000:=hz
 have hMl:=hMk.len
 have hMk2:MkOk F (s.2++[k]):=by have z:=hMk.mark hkl;unfold markF at z;rw [hd,if_neg (by decide),if_neg hm] at z;exact z
 have hm2:k∈s.2++[k]:=List.mem_append_right _ (List.mem_singleton.2 rfl)
 refine enterR Tryz.func60 rfl (N:=74) Tryz.ntmps60 (by show 3≤74;decide) [(0,π sg),(1,.agg #[ν r.dp,.string r.nm,ν r.cl,ν r.fd,ν r.fl,σ r.dt]),(2,π (A.ad k))] rfl fun _ h1=>sqr fun _ hK3=>so (wn rfl) fun _ hK1=>xbox h1 rfl rfl rfl rfl rfl (z:=[ν r.dp,.string r.nm,ν r.cl,ν r.fd,ν r.fl,σ r.dt]) rfl hS fun _ g4 w7 h5 s8 _ _=>hK1 _ _ ?_
 refine wpList_nil<|hK3 _ _<|sq fun K1 hK2=>?_
 have hJ13:∀  a' w',Kn 74 [(4,π g4),(0,π sg),(1,.agg #[ν r.dp,.string r.nm,ν r.cl,ν r.fd,ν r.fl,σ r.dt]),(2,π (A.ad k))] a'→Sep w' [blkC g4 76 [ν r.dp,.string r.nm,ν r.cl,ν r.fd,ν ((s.2.length+1:Nat):Int),σ ((F.at k).data)],blkC sg 101 [.slice ra s.1.length rc,.map (some fb)],ownC 0 76 6 ra s.1.length rc (s.1.flatMap rowE),pmC iV fb (flL A (s.2++[k])),blkC cf 65 [π (A.ad 0),.map (some ob)],nodX F A,mapC KO ob A.C (opG F A),Ch.many R]→K1 a' w':=by
  intro a1 w2 h2 s1
  refine hK2 _ _ ?_
  refine sq fun K2 hK4=>?_
  have hJ19:∀ (p5:Option Addr) (c5:Nat) a' w',Kn 74 [(4,π g4),(0,π sg),(1,.agg #[ν r.dp,.string r.nm,ν r.cl,ν r.fd,ν r.fl,σ r.dt]),(2,π (A.ad k))] a'→Sep w' [blkC g4 76 [ν r.dp,.string r.nm,ν r.cl,ν r.fd,ν ((s.2.length+1:Nat):Int),σ ((F.at k).data)],blkC sg 101 [.slice p5 ((s.1++[(⟨r.dp,r.nm,r.cl,r.fd,((s.2.length+1:Nat):Int),(F.at k).data⟩:RowM)]).length) c5,.map (some fb)],ownC 0 76 6 p5 (s.1++[(⟨r.dp,r.nm,r.cl,r.fd,((s.2.length+1:Nat):Int),(F.at k).data⟩:RowM)]).length c5 ((s.1++[(⟨r.dp,r.nm,r.cl,r.fd,((s.2.length+1:Nat):Int),(F.at k).data⟩:RowM)]).flatMap rowE),pmC iV fb (flL A (s.2++[k])),blkC cf 65 [π (A.ad 0),.map (some ob)],nodX F A,mapC KO ob A.C (opG F A),Ch.many R]→K2 a' w':=by
   intro p5 c5 a2 w3 h3 s2
   refine hK4 _ _ ?_
   refine sqr fun _ hK5=>mv h3 rfl fun _ h4=>cl h4 rfl cz_posix_node_sorted (sortedF_c (cf:=cf) (A:=A) (F:=F) (s2.pk [4,5,6,0,1,2,3,7] rfl) hok hz0 hkl hd) fun _ v1 w4 r1 h6=>?_
   obtain ⟨rfl,s3⟩:=r1
   refine sv1 h6 rfl (v:=ν 0) (rlenS h6 rfl rfl υ33) fun _ h7=>mv h7 rfl fun _ h8=>h8.sn [56,55,54,4,0,1,2] rfl fun h9=>hK5 _ _<|wp_block ?_
   refine wp_loop1 (fun (z:Nat) a' w'=>Kn 74 [(56,ν 0),(55,ν 0),(54,.slice none 0 0),(4,π g4),(0,π sg),(1,.agg #[ν r.dp,.string r.nm,ν r.cl,ν r.fd,ν r.fl,σ r.dt]),(2,π (A.ad k))] a'∧Sep w' [blkC cf 65 [π (A.ad 0),.map (some ob)],nodX F A,mapC KO ob A.C (opG F A),blkC g4 76 [ν r.dp,.string r.nm,ν r.cl,ν r.fd,ν ((s.2.length+1:Nat):Int),σ ((F.at k).data)],blkC sg 101 [.slice p5 ((s.1++[(⟨r.dp,r.nm,r.cl,r.fd,((s.2.length+1:Nat):Int),(F.at k).data⟩:RowM)]).length) c5,.map (some fb)],ownC 0 76 6 p5 (s.1++[(⟨r.dp,r.nm,r.cl,r.fd,((s.2.length+1:Nat):Int),(F.at k).data⟩:RowM)]).length c5 ((s.1++[(⟨r.dp,r.nm,r.cl,r.fd,((s.2.length+1:Nat):Int),(F.at k).data⟩:RowM)]).flatMap rowE),pmC iV fb (flL A (s.2++[k])),Ch.many R]) (fun (z:Nat)=>0) 0 ⟨h9.subs rfl,s3⟩ ?_
   rintro z44 a3 w5 ⟨h10,s4⟩ K3 hK6
   refine sqr fun _ hK7=>bv h10 rfl (cLt _ _ _ _ rfl) fun _ h11=>wpList_nil<|hK7 _ _<|sq fun _ hK8=>wcF h11 rfl rfl<|h11.sk [56,55,54,4,0,1,2] rfl fun h12=>wp_exit ?_
   simp only [Exit.then,Exit.inBlock,↓reduceIte,Nat.reduceEqDiff]
   refine endR (v:=.tuple #[]) (fun _=>res0 rfl _) h12.defs ?_
   rw [headF_new hd r s hm]
   exact ⟨_,_,rfl,Sep.tail_un (xs:=[_,_,_,_,_,_]) (s4.pk [4,5,6,0,1,2,7] rfl)⟩
  have s5:=s1.drew
  refine wp_region_held_drew (S:=fun w'=>Sep w' [blkC g4 76 [ν r.dp,.string r.nm,ν r.cl,ν r.fd,ν ((s.2.length+1:Nat):Int),σ ((F.at k).data)],pmC iV fb (flL A (s.2++[k])),blkC cf 65 [π (A.ad 0),.map (some ob)],nodX F A,mapC KO ob A.C (opG F A),Ch.many R]) κ (s5.pk [0,3,4,5,6,7] rfl) (fun hq1=>?_)
  refine tv1 hq1 h2 0 rfl rfl (v:=π sg) (fun w1 _=>(rmove h2 rfl rfl) w1) fun _ h13=>?_
  refine tv1 hq1 h13 1 rfl rfl (v:=π sg) (fun w1 _=>(rmove h13 rfl rfl) w1) fun _ h14=>?_
  refine tv1 hq1 h14 2 rfl rfl (v:=π sg) (fun w1 _=>(rnil h14 rfl rfl) w1) fun _ h15=>?_
  refine tv1 hq1 h15 3 rfl rfl (v:=π sg) (fun w1 _=>(rfa h15 rfl rfl (fun w=>fa_posix_shape_rb1_0 sg 0 w)) w1) fun _ h16=>?_
  refine tv1 hq1 h16 5 rfl rfl (v:=.agg #[ν r.dp,.string r.nm,ν r.cl,ν r.fd,ν ((s.2.length+1:Nat):Int),σ ((F.at k).data)]) (fun w1 hSw=>(rld h16 rfl rfl (ldA υ76 rfl (n:=6) κ (hSw.get 0 rfl:Blk _ _ _ _) rfl rfl))) fun _ h17=>?_
  refine wpAnyH_ready (rs:=[4,6]) κ (by simp) (toc rfl (wn rfl) (fun K4 hK9=>?_) (toc rfl (wn rfl) (fun K4 hK9=>?_) AllReadyH.nil))
  ·skip
   refine xval h17 rfl rfl rfl (v:=.slice ra s.1.length rc) (w':=w2.drew) ((rld h17 rfl rfl (ldB υ74 rfl (s5.get 1 rfl:Blk _ _ _ _) rfl))) fun _ h18=>hK9 _ _ (s5.pk [0,3,4,5,6,7] rfl) fun hq2=>?_
   refine to_ 6 rfl (wn rfl) κ fun _ hK10=>xbuildS h18 rfl rfl rfl (E:=76) (xs:=[(0,.tmp 48)]) rfl (vs:=[(0,.agg #[ν r.dp,.string r.nm,ν r.cl,ν r.fd,ν ((s.2.length+1:Nat):Int),σ ((F.at k).data)])]) rfl (z:=[ν r.dp,.string r.nm,ν r.cl,ν r.fd,ν ((s.2.length+1:Nat):Int),σ ((F.at k).data)]) (fun _=>κ) s5 fun _ g1 w6 h19 s6 _ _=>?_
   refine hK10 _ _ (s6.pk [1,4,5,6,7,8] rfl) fun hq3=>?_
   refine to_ 7 rfl (wn rfl) κ fun _ hK11=>xappS rowE_len h19 rfl rfl rfl rfl ERw s6 3 rfl rfl 0 (y:=(⟨r.dp,r.nm,r.cl,r.fd,((s.2.length+1:Nat):Int),(F.at k).data⟩:RowM)) rfl rfl rfl (by decide) ω (L':=s.1++[(⟨r.dp,r.nm,r.cl,r.fd,((s.2.length+1:Nat):Int),(F.at k).data⟩:RowM)]) rfl fun _ p76 c77 w8 h20 s7=>?_
   have s9:=s7.pk [1,2,3,4,5,6,7,8] rfl;clear s7
   refine hK11 _ _ (s9.pk [0,3,4,5,6,7] rfl) fun hq4=>?_
   refine tv1 hq4 h20 8 rfl rfl (v:=π sg) (fun w1 _=>(rnil h20 rfl rfl) w1) fun _ h21=>?_
   refine tv1 hq4 h21 9 rfl rfl (v:=π sg) (fun w1 _=>(rfa h21 rfl rfl (fun w=>fa_posix_shape_rb1_0 sg 0 w)) w1) fun _ h22=>?_
   refine to_ 10 rfl (wn rfl) κ fun _ hK12=>xstore h22 rfl rfl s9 1 rfl rfl rfl [.slice p76 ((s.1++[(⟨r.dp,r.nm,r.cl,r.fd,((s.2.length+1:Nat):Int),(F.at k).data⟩:RowM)]).length) c77] rfl κ rfl (by show 0+1≤2;decide) (L':=[.slice p76 ((s.1++[(⟨r.dp,r.nm,r.cl,r.fd,((s.2.length+1:Nat):Int),(F.at k).data⟩:RowM)]).length) c77,.map (some fb)]) rfl (cs':=[blkC g4 76 [ν r.dp,.string r.nm,ν r.cl,ν r.fd,ν ((s.2.length+1:Nat):Int),σ ((F.at k).data)],blkC sg 101 [.slice p76 ((s.1++[(⟨r.dp,r.nm,r.cl,r.fd,((s.2.length+1:Nat):Int),(F.at k).data⟩:RowM)]).length) c77,.map (some fb)],ownC 0 76 6 p76 (s.1++[(⟨r.dp,r.nm,r.cl,r.fd,((s.2.length+1:Nat):Int),(F.at k).data⟩:RowM)]).length c77 ((s.1++[(⟨r.dp,r.nm,r.cl,r.fd,((s.2.length+1:Nat):Int),(F.at k).data⟩:RowM)]).flatMap rowE),pmC iV fb (flL A (s.2++[k])),blkC cf 65 [π (A.ad 0),.map (some ob)],nodX F A,mapC KO ob A.C (opG F A),Ch.many R]) rfl fun _ w9 h23 s10 _=>?_
   refine hK12 _ _ (s10.pk [0,3,4,5,6,7] rfl) fun hq5=>h23.sk [4,0,1,2] rfl fun h24=>?_
   refine wpAnyH_done κ ?_ _
   exact hJ19 p76 c77 _ _ (h24.subs rfl) s10 
  ·skip
   refine xbuildS h17 rfl rfl rfl (E:=76) (xs:=[(0,.tmp 48)]) rfl (vs:=[(0,.agg #[ν r.dp,.string r.nm,ν r.cl,ν r.fd,ν ((s.2.length+1:Nat):Int),σ ((F.at k).data)])]) rfl (z:=[ν r.dp,.string r.nm,ν r.cl,ν r.fd,ν ((s.2.length+1:Nat):Int),σ ((F.at k).data)]) (fun _=>κ) s5 fun _ g2 w10 h25 s11 _ _=>hK9 _ _ (s11.pk [1,4,5,6,7,8] rfl) fun hq6=>?_
   refine to_ 4 rfl (wn rfl) κ fun _ hK13=>xval h25 rfl rfl rfl (v:=.slice ra s.1.length rc) (w':=w10) ((rld h25 rfl rfl (ldB υ74 rfl (s11.get 2 rfl:Blk _ _ _ _) rfl))) fun _ h26=>hK13 _ _ (s11.pk [1,4,5,6,7,8] rfl) fun hq7=>?_
   refine to_ 7 rfl (wn rfl) κ fun _ hK14=>xappS rowE_len h26 rfl rfl rfl rfl ERw s11 3 rfl rfl 0 (y:=(⟨r.dp,r.nm,r.cl,r.fd,((s.2.length+1:Nat):Int),(F.at k).data⟩:RowM)) rfl rfl rfl (by decide) ω (L':=s.1++[(⟨r.dp,r.nm,r.cl,r.fd,((s.2.length+1:Nat):Int),(F.at k).data⟩:RowM)]) rfl fun _ p109 c110 w11 h27 s12=>?_
   have s13:=s12.pk [1,2,3,4,5,6,7,8] rfl;clear s12
   refine hK14 _ _ (s13.pk [0,3,4,5,6,7] rfl) fun hq8=>?_
   refine tv1 hq8 h27 8 rfl rfl (v:=π sg) (fun w1 _=>(rnil h27 rfl rfl) w1) fun _ h28=>?_
   refine tv1 hq8 h28 9 rfl rfl (v:=π sg) (fun w1 _=>(rfa h28 rfl rfl (fun w=>fa_posix_shape_rb1_0 sg 0 w)) w1) fun _ h29=>?_
   refine to_ 10 rfl (wn rfl) κ fun _ hK15=>xstore h29 rfl rfl s13 1 rfl rfl rfl [.slice p109 ((s.1++[(⟨r.dp,r.nm,r.cl,r.fd,((s.2.length+1:Nat):Int),(F.at k).data⟩:RowM)]).length) c110] rfl κ rfl (by show 0+1≤2;decide) (L':=[.slice p109 ((s.1++[(⟨r.dp,r.nm,r.cl,r.fd,((s.2.length+1:Nat):Int),(F.at k).data⟩:RowM)]).length) c110,.map (some fb)]) rfl (cs':=[blkC g4 76 [ν r.dp,.string r.nm,ν r.cl,ν r.fd,ν ((s.2.length+1:Nat):Int),σ ((F.at k).data)],blkC sg 101 [.slice p109 ((s.1++[(⟨r.dp,r.nm,r.cl,r.fd,((s.2.length+1:Nat):Int),(F.at k).data⟩:RowM)]).length) c110,.map (some fb)],ownC 0 76 6 p109 (s.1++[(⟨r.dp,r.nm,r.cl,r.fd,((s.2.length+1:Nat):Int),(F.at k).data⟩:RowM)]).length c110 ((s.1++[(⟨r.dp,r.nm,r.cl,r.fd,((s.2.length+1:Nat):Int),(F.at k).data⟩:RowM)]).flatMap rowE),pmC iV fb (flL A (s.2++[k])),blkC cf 65 [π (A.ad 0),.map (some ob)],nodX F A,mapC KO ob A.C (opG F A),Ch.many R]) rfl fun _ w12 h30 s14 _=>?_
   refine hK15 _ _ (s14.pk [0,3,4,5,6,7] rfl) fun hq9=>h30.sk [4,0,1,2] rfl fun h31=>?_
   refine wpAnyH_done κ ?_ _
   exact hJ19 p109 c110 _ _ (h31.subs rfl) s14 
 refine sqr fun _ hK16=>mvs 2 h5 rfl fun _ h32=>sv1 h32 rfl (v:=π (A.ad k)) (rfa h32 rfl rfl (fun w=>fz_posix_node_0 (A.ad k) 0 w)) fun _ h33=>sw1 h33 rfl (v:=ν (kindI (F.dir k))) (rld h33 rfl rfl (NdP.c0 (F:=FsM.nE F) (A:=AdM.nC A) (k:=k) (s8.get 5 rfl:NdP _ _ _) (show k<F.N.length from ω) υ3 rfl)) fun _ h34=>bv h34 (z:=.bool (!(F.dir k))) rfl (cEq _ _ _ _ (kind1 _)) fun _ h35=>h35.sn [12,4,0,1,2] rfl fun h36=>hK16 _ _<|wcT h36 rfl (bNotF hd)<|h36.sk [4,0,1,2] rfl fun h37=>sq fun _ hK17=>sq fun _ hK18=>wp_region_lit ?_
 refine mvs 2 h37 rfl fun _ h38=>fav h38 rfl (fa_posix_shape_rb1_1 _ _) fun _ h39=>ldv h39 s8 1 υ99 rfl rfl rfl rfl fun _ h40=>mv h40 rfl fun _ h41=>sw1 h41 rfl (v:=ν 0) (rlook h41 rfl rfl rfl (fl_no (s8.get 3 rfl:PMap _ _ _ _) (s8.get 5 rfl:NdP _ _ _) hMk hkl hm)) fun _ h42=>bv h42 rfl (cEq _ _ _ _ rfl) fun _ h43=>h43.sn [19,4,0,1,2] rfl fun h44=>hK18 _ _<|wcT h44 rfl rfl<|h44.sk [4,0,1,2] rfl fun h45=>?_
 have s15:=s8.drew
 refine wp_region_held_drew (S:=fun w'=>Sep w' [blkC g4 76 [ν r.dp,.string r.nm,ν r.cl,ν r.fd,ν r.fl,σ r.dt],blkC sg 101 [.slice ra s.1.length rc,.map (some fb)],ownC 0 76 6 ra s.1.length rc (s.1.flatMap rowE),blkC cf 65 [π (A.ad 0),.map (some ob)],nodX F A,mapC KO ob A.C (opG F A),Ch.many R]) κ (s15.pk [0,1,2,4,5,6,7] rfl) (fun hq10=>?_)
 refine tv1 hq10 h45 0 rfl rfl (v:=π sg) (fun w1 _=>(rmove h45 rfl rfl) w1) fun _ h46=>?_
 refine tv1 hq10 h46 1 rfl rfl (v:=π sg) (fun w1 _=>(rnil h46 rfl rfl) w1) fun _ h47=>?_
 refine tv1 hq10 h47 2 rfl rfl (v:=.pointer (some ⟨sg,1,none⟩)) (fun w1 _=>(rfa h47 rfl rfl (fun w=>fa_posix_shape_rb1_1 sg 0 w)) w1) fun _ h48=>?_
 refine tv1 hq10 h48 3 rfl rfl (v:=.map (some fb)) (fun w1 hSw=>(rld h48 rfl rfl (ldB υ99 rfl (hSw.get 1 rfl:Blk _ _ _ _) rfl))) fun _ h49=>?_
 refine tv1 hq10 h49 4 rfl rfl (v:=π (A.ad k)) (fun w1 _=>(rmove h49 rfl rfl) w1) fun _ h50=>?_
 refine tv1 hq10 h50 5 rfl rfl (v:=π sg) (fun w1 _=>(rmove h50 rfl rfl) w1) fun _ h51=>?_
 refine tv1 hq10 h51 6 rfl rfl (v:=π sg) (fun w1 _=>(rnil h51 rfl rfl) w1) fun _ h52=>?_
 refine tv1 hq10 h52 7 rfl rfl (v:=.pointer (some ⟨sg,1,none⟩)) (fun w1 _=>(rfa h52 rfl rfl (fun w=>fa_posix_shape_rb1_1 sg 0 w)) w1) fun _ h53=>?_
 refine tv1 hq10 h53 8 rfl rfl (v:=.map (some fb)) (fun w1 hSw=>(rld h53 rfl rfl (ldB υ99 rfl (hSw.get 1 rfl:Blk _ _ _ _) rfl))) fun _ h54=>?_
 refine to_ 9 rfl (wn rfl) κ fun _ hK19=>xval h54 rfl rfl rfl (v:=ν (s.2.length:Int)) (w':=w7.drew) ((rlenP h54 rfl rfl (s15.get 3 rfl:PMap _ _ _ _) υ99 (by unfold flL;rw [List.length_map,List.length_range]))) fun _ h55=>hK19 _ _ (s15.pk [0,1,2,4,5,6,7] rfl) fun hq11=>?_
 refine tv1 hq11 h55 10 rfl rfl (v:=ν ((s.2.length+1:Nat):Int)) (fun w1 _=>(rbin h55 rfl rfl rfl (bAdd _ _ _ ω ω ω)) w1) fun _ h56=>?_
 refine to_ 11 rfl (wn rfl) κ fun _ hK20=>xputP (av:=iV) (b:=fb) (g:=A.ad k) (u:=((s.2.length+1:Nat):Int)) h56 rfl rfl s15 3 rfl rfl rfl rfl υ99 υ62 (NdP.tellsV (s15.get 5 rfl:NdP _ _ _) hMk hkl) (fl_none (s15.get 5 rfl:NdP _ _ _) hMk hkl hm) (cs':=[blkC g4 76 [ν r.dp,.string r.nm,ν r.cl,ν r.fd,ν r.fl,σ r.dt],blkC sg 101 [.slice ra s.1.length rc,.map (some fb)],ownC 0 76 6 ra s.1.length rc (s.1.flatMap rowE),pmC iV fb (flL A (s.2++[k])),blkC cf 65 [π (A.ad 0),.map (some ob)],nodX F A,mapC KO ob A.C (opG F A),Ch.many R]) (by rw [← fl_snoc];rfl) fun _ w13 h57 s16=>?_
 refine hK20 _ _ (s16.pk [0,1,2,4,5,6,7] rfl) fun hq12=>h57.sk [4,0,1,2] rfl fun h58=>?_
 refine wpAnyH_done κ ?_ _
 refine hK17 _ _ ?_
 have s17:=s16.drew
 refine wp_region_held_drew (S:=fun w'=>Sep w' [blkC sg 101 [.slice ra s.1.length rc,.map (some fb)],ownC 0 76 6 ra s.1.length rc (s.1.flatMap rowE),pmC iV fb (flL A (s.2++[k])),blkC cf 65 [π (A.ad 0),.map (some ob)],nodX F A,mapC KO ob A.C (opG F A),Ch.many R]) κ (s17.pk [1,2,3,4,5,6,7] rfl) (fun hq13=>?_)
 refine tv1 hq13 h58 0 rfl rfl (v:=π sg) (fun w1 _=>(rmove h58 rfl rfl) w1) fun _ h59=>?_
 refine tv1 hq13 h59 1 rfl rfl (v:=π sg) (fun w1 _=>(rnil h59 rfl rfl) w1) fun _ h60=>?_
 refine tv1 hq13 h60 2 rfl rfl (v:=.pointer (some ⟨sg,1,none⟩)) (fun w1 _=>(rfa h60 rfl rfl (fun w=>fa_posix_shape_rb1_1 sg 0 w)) w1) fun _ h61=>?_
 refine tv1 hq13 h61 3 rfl rfl (v:=.map (some fb)) (fun w1 hSw=>(rld h61 rfl rfl (ldB υ99 rfl (hSw.get 0 rfl:Blk _ _ _ _) rfl))) fun _ h62=>?_
 refine tv1 hq13 h62 4 rfl rfl (v:=π (A.ad k)) (fun w1 _=>(rmove h62 rfl rfl) w1) fun _ h63=>?_
 refine tv1 hq13 h63 6 rfl rfl (v:=π (A.ad k)) (fun w1 _=>(rmove h63 rfl rfl) w1) fun _ h64=>?_
 refine tv1 hq13 h64 7 rfl rfl (v:=π (A.ad k)) (fun w1 _=>(rnil h64 rfl rfl) w1) fun _ h65=>?_
 refine tv1 hq13 h65 8 rfl rfl (v:=.pointer (some ⟨(A.ad k),2,none⟩)) (fun w1 _=>(rfa h65 rfl rfl (fun w=>fz_posix_node_2 (A.ad k) 0 w)) w1) fun _ h66=>?_
 refine wpAnyH_ready (rs:=[5,9]) κ (by simp) (toc rfl (wn rfl) (fun K5 hK21=>?_) (toc rfl (wn rfl) (fun K5 hK21=>?_) AllReadyH.nil))
 ·skip
  refine xval h66 rfl rfl rfl (v:=ν ((s.2.length+1:Nat):Int)) (w':=w13.drew) ((rlook h66 rfl rfl rfl (fl_yes (s17.get 3 rfl:PMap _ _ _ _) (s17.get 5 rfl:NdP _ _ _) hMk2 hkl hm2 (idx_snoc hm)))) fun _ h67=>hK21 _ _ (s17.pk [1,2,3,4,5,6,7] rfl) fun hq14=>?_
  refine tv1 hq14 h67 10 rfl rfl (v:=.pointer (some ⟨g4,4,none⟩)) (fun w1 _=>(rfa h67 rfl rfl (fun w=>fa_posix_row_rb1_3 g4 0 w)) w1) fun _ h68=>?_
  refine wpAnyH_ready (rs:=[9,11]) κ (by simp) (toc rfl (wn rfl) (fun K6 hK22=>?_) (toc rfl (wn rfl) (fun K6 hK22=>?_) AllReadyH.nil))
  ·skip
   refine xval h68 rfl rfl rfl (v:=σ ((F.at k).data)) (w':=w13.drew) ((rld h68 rfl rfl (NdP.c2 (F:=FsM.nE F) (A:=AdM.nC A) (k:=k) (s17.get 5 rfl:NdP _ _ _) (show k<F.N.length from ω) υ9 rfl))) fun _ h69=>hK22 _ _ (s17.pk [1,2,3,4,5,6,7] rfl) fun hq15=>?_
   refine to_ 11 rfl (wn rfl) κ fun _ hK23=>xstore h69 rfl rfl s17 0 rfl rfl rfl [ν ((s.2.length+1:Nat):Int)] rfl κ rfl (by show 4+1≤6;decide) (L':=[ν r.dp,.string r.nm,ν r.cl,ν r.fd,ν ((s.2.length+1:Nat):Int),σ r.dt]) rfl (cs':=[blkC g4 76 [ν r.dp,.string r.nm,ν r.cl,ν r.fd,ν ((s.2.length+1:Nat):Int),σ r.dt],blkC sg 101 [.slice ra s.1.length rc,.map (some fb)],ownC 0 76 6 ra s.1.length rc (s.1.flatMap rowE),pmC iV fb (flL A (s.2++[k])),blkC cf 65 [π (A.ad 0),.map (some ob)],nodX F A,mapC KO ob A.C (opG F A),Ch.many R]) rfl fun _ w14 h70 s18 _=>?_
   refine hK23 _ _ (s18.pk [1,2,3,4,5,6,7] rfl) fun hq16=>?_
   refine tv1 hq16 h70 12 rfl rfl (v:=.pointer (some ⟨g4,5,none⟩)) (fun w1 _=>(rfa h70 rfl rfl (fun w=>fa_posix_row_rb1_4 g4 0 w)) w1) fun _ h71=>?_
   refine to_ 13 rfl (wn rfl) κ fun _ hK24=>xstore h71 rfl rfl s18 0 rfl rfl rfl [σ ((F.at k).data)] rfl κ rfl (by show 5+1≤6;decide) (L':=[ν r.dp,.string r.nm,ν r.cl,ν r.fd,ν ((s.2.length+1:Nat):Int),σ ((F.at k).data)]) rfl (cs':=[blkC g4 76 [ν r.dp,.string r.nm,ν r.cl,ν r.fd,ν ((s.2.length+1:Nat):Int),σ ((F.at k).data)],blkC sg 101 [.slice ra s.1.length rc,.map (some fb)],ownC 0 76 6 ra s.1.length rc (s.1.flatMap rowE),pmC iV fb (flL A (s.2++[k])),blkC cf 65 [π (A.ad 0),.map (some ob)],nodX F A,mapC KO ob A.C (opG F A),Ch.many R]) rfl fun _ w15 h72 s19 _=>?_
   refine hK24 _ _ (s19.pk [1,2,3,4,5,6,7] rfl) fun hq17=>h72.sk [4,0,1,2] rfl fun h73=>?_
   refine wpAnyH_done κ ?_ _
   exact hJ13  _ _ (h73.subs rfl) s19 
  ·skip
   refine xstore h68 rfl rfl s17 0 rfl rfl rfl [ν ((s.2.length+1:Nat):Int)] rfl κ rfl (by show 4+1≤6;decide) (L':=[ν r.dp,.string r.nm,ν r.cl,ν r.fd,ν ((s.2.length+1:Nat):Int),σ r.dt]) rfl (cs':=[blkC g4 76 [ν r.dp,.string r.nm,ν r.cl,ν r.fd,ν ((s.2.length+1:Nat):Int),σ r.dt],blkC sg 101 [.slice ra s.1.length rc,.map (some fb)],ownC 0 76 6 ra s.1.length rc (s.1.flatMap rowE),pmC iV fb (flL A (s.2++[k])),blkC cf 65 [π (A.ad 0),.map (some ob)],nodX F A,mapC KO ob A.C (opG F A),Ch.many R]) rfl fun _ w16 h74 s20 _=>hK22 _ _ (s20.pk [1,2,3,4,5,6,7] rfl) fun hq18=>?_
   refine to_ 9 rfl (wn rfl) κ fun _ hK25=>xval h74 rfl rfl rfl (v:=σ ((F.at k).data)) (w':=w16) ((rld h74 rfl rfl (NdP.c2 (F:=FsM.nE F) (A:=AdM.nC A) (k:=k) (s20.get 5 rfl:NdP _ _ _) (show k<F.N.length from ω) υ9 rfl))) fun _ h75=>hK25 _ _ (s20.pk [1,2,3,4,5,6,7] rfl) fun hq19=>?_
   refine tv1 hq19 h75 12 rfl rfl (v:=.pointer (some ⟨g4,5,none⟩)) (fun w1 _=>(rfa h75 rfl rfl (fun w=>fa_posix_row_rb1_4 g4 0 w)) w1) fun _ h76=>?_
   refine to_ 13 rfl (wn rfl) κ fun _ hK26=>xstore h76 rfl rfl s20 0 rfl rfl rfl [σ ((F.at k).data)] rfl κ rfl (by show 5+1≤6;decide) (L':=[ν r.dp,.string r.nm,ν r.cl,ν r.fd,ν ((s.2.length+1:Nat):Int),σ ((F.at k).data)]) rfl (cs':=[blkC g4 76 [ν r.dp,.string r.nm,ν r.cl,ν r.fd,ν ((s.2.length+1:Nat):Int),σ ((F.at k).data)],blkC sg 101 [.slice ra s.1.length rc,.map (some fb)],ownC 0 76 6 ra s.1.length rc (s.1.flatMap rowE),pmC iV fb (flL A (s.2++[k])),blkC cf 65 [π (A.ad 0),.map (some ob)],nodX F A,mapC KO ob A.C (opG F A),Ch.many R]) rfl fun _ w17 h77 s21 _=>?_
   refine hK26 _ _ (s21.pk [1,2,3,4,5,6,7] rfl) fun hq20=>h77.sk [4,0,1,2] rfl fun h78=>?_
   refine wpAnyH_done κ ?_ _
   exact hJ13  _ _ (h78.subs rfl) s21 
 ·skip
  refine xval h66 rfl rfl rfl (v:=σ ((F.at k).data)) (w':=w13.drew) ((rld h66 rfl rfl (NdP.c2 (F:=FsM.nE F) (A:=AdM.nC A) (k:=k) (s17.get 5 rfl:NdP _ _ _) (show k<F.N.length from ω) υ9 rfl))) fun _ h79=>hK21 _ _ (s17.pk [1,2,3,4,5,6,7] rfl) fun hq21=>?_
  refine to_ 5 rfl (wn rfl) κ fun _ hK27=>xval h79 rfl rfl rfl (v:=ν ((s.2.length+1:Nat):Int)) (w':=w13.drew) ((rlook h79 rfl rfl rfl (fl_yes (s17.get 3 rfl:PMap _ _ _ _) (s17.get 5 rfl:NdP _ _ _) hMk2 hkl hm2 (idx_snoc hm)))) fun _ h80=>hK27 _ _ (s17.pk [1,2,3,4,5,6,7] rfl) fun hq22=>?_
  refine tv1 hq22 h80 10 rfl rfl (v:=.pointer (some ⟨g4,4,none⟩)) (fun w1 _=>(rfa h80 rfl rfl (fun w=>fa_posix_row_rb1_3 g4 0 w)) w1) fun _ h81=>?_
  refine to_ 11 rfl (wn rfl) κ fun _ hK28=>xstore h81 rfl rfl s17 0 rfl rfl rfl [ν ((s.2.length+1:Nat):Int)] rfl κ rfl (by show 4+1≤6;decide) (L':=[ν r.dp,.string r.nm,ν r.cl,ν r.fd,ν ((s.2.length+1:Nat):Int),σ r.dt]) rfl (cs':=[blkC g4 76 [ν r.dp,.string r.nm,ν r.cl,ν r.fd,ν ((s.2.length+1:Nat):Int),σ r.dt],blkC sg 101 [.slice ra s.1.length rc,.map (some fb)],ownC 0 76 6 ra s.1.length rc (s.1.flatMap rowE),pmC iV fb (flL A (s.2++[k])),blkC cf 65 [π (A.ad 0),.map (some ob)],nodX F A,mapC KO ob A.C (opG F A),Ch.many R]) rfl fun _ w18 h82 s22 _=>?_
  refine hK28 _ _ (s22.pk [1,2,3,4,5,6,7] rfl) fun hq23=>?_
  refine tv1 hq23 h82 12 rfl rfl (v:=.pointer (some ⟨g4,5,none⟩)) (fun w1 _=>(rfa h82 rfl rfl (fun w=>fa_posix_row_rb1_4 g4 0 w)) w1) fun _ h83=>?_
  refine to_ 13 rfl (wn rfl) κ fun _ hK29=>xstore h83 rfl rfl s22 0 rfl rfl rfl [σ ((F.at k).data)] rfl κ rfl (by show 5+1≤6;decide) (L':=[ν r.dp,.string r.nm,ν r.cl,ν r.fd,ν ((s.2.length+1:Nat):Int),σ ((F.at k).data)]) rfl (cs':=[blkC g4 76 [ν r.dp,.string r.nm,ν r.cl,ν r.fd,ν ((s.2.length+1:Nat):Int),σ ((F.at k).data)],blkC sg 101 [.slice ra s.1.length rc,.map (some fb)],ownC 0 76 6 ra s.1.length rc (s.1.flatMap rowE),pmC iV fb (flL A (s.2++[k])),blkC cf 65 [π (A.ad 0),.map (some ob)],nodX F A,mapC KO ob A.C (opG F A),Ch.many R]) rfl fun _ w19 h84 s23 _=>?_
  refine hK29 _ _ (s23.pk [1,2,3,4,5,6,7] rfl) fun hq24=>h84.sk [4,0,1,2] rfl fun h85=>?_
  refine wpAnyH_done κ ?_ _
  exact hJ13  _ _ (h85.subs rfl) s23 
theorem addD_c {w:World} {cf ob:Nat} {F:FsM} {A:AdM} {R:List Ch} {δ:Nat→Int} {sg fb:Nat} {ra:Option Addr} {rc:Nat} {s:Rows} {r:RowM} {k:Nat} (hS0:Sep w ([blkC sg 101 [.slice ra s.1.length rc,.map (some fb)],ownC 0 76 6 ra s.1.length rc (s.1.flatMap rowE),pmC iV fb (flL A s.2),blkC cf 65 [π (A.ad 0),.map (some ob)],nodX F A,mapC KO ob A.C (opG F A)]++R)) (hok:FsC F δ) (hz:SmF F) (hkl:k<F.N.length) (hMk:MkOk F s.2) {n:Nat} (hd:F.dir k=true) (hfu:Fuel F (n+1) k) (hB0:(addF F (n+1) r k s).1.length≤4000) (hr0:0≤r.dp) (hr1:r.dp+((n+1:Nat):Int)≤3000) (ih:∀ {w:World} {ra:Option Addr} {rc:Nat} {s:Rows} {r:RowM} {k:Nat} {R:List Ch},Fuel F n k→k<F.N.length→MkOk F s.2→(addF F n r k s).1.length≤4000→0≤r.dp→r.dp+(n:Int)≤3000→Sep w ([blkC sg 101 [.slice ra s.1.length rc,.map (some fb)],ownC 0 76 6 ra s.1.length rc (s.1.flatMap rowE),pmC iV fb (flL A s.2),blkC cf 65 [π (A.ad 0),.map (some ob)],nodX F A,mapC KO ob A.C (opG F A)]++R)→CallsR Tryz.prog 60 #[π sg,.agg #[ν r.dp,.string r.nm,ν r.cl,ν r.fd,ν r.fl,σ r.dt],π (A.ad k)] w (fun v w'=>∃ ra' rc',v=.tuple #[]∧Sep w' ([blkC sg 101 [.slice ra' ((addF F n r k s).1.length) rc',.map (some fb)],ownC 0 76 6 ra' ((addF F n r k s).1).length rc' (((addF F n r k s).1).flatMap rowE),pmC iV fb (flL A (addF F n r k s).2),blkC cf 65 [π (A.ad 0),.map (some ob)],nodX F A,mapC KO ob A.C (opG F A)]++R))) :
  CallsR Tryz.prog 60 #[π sg,.agg #[ν r.dp,.string r.nm,ν r.cl,ν r.fd,ν r.fl,σ r.dt],π (A.ad k)] w (fun v w'=>∃ ra' rc',v=.tuple #[]∧Sep w' ([blkC sg 101 [.slice ra' ((addF F (n+1) r k s).1.length) rc',.map (some fb)],ownC 0 76 6 ra' ((addF F (n+1) r k s).1).length rc' (((addF F (n+1) r k s).1).flatMap rowE),pmC iV fb (flL A (addF F (n+1) r k s).2),blkC cf 65 [π (A.ad 0),.map (some ob)],nodX F A,mapC KO ob A.C (opG F A)]++R)):=by
 have hS:Sep w [blkC sg 101 [.slice ra s.1.length rc,.map (some fb)],ownC 0 76 6 ra s.1.length rc (s.1.flatMap rowE),pmC iV fb (flL A s.2),blkC cf 65 [π (A.ad 0),.map (some ob)],nodX F A,mapC KO ob A.C (opG F A),Ch.many R]:=Sep.tail_many (xs:=[_,_,_,_,_,_]) hS0;clear hS0
 have hz0:=hz;obtain ⟨hz1,hz2,hz3⟩:F.N.length≤1000∧F.E.length≤1000∧F.O.length≤1000:=hz
 have hMl:=hMk.len
 obtain ⟨L,hL⟩:∃ L,sortN (namesOf F.E k)=L:=⟨_,rfl⟩
 have hLl:L.length≤1000:=by rw [← hL,sortN_len];exact Nat.le_trans (namesOf_le _ _) hz2
 obtain ⟨t,ht0⟩:∃ t,t=headF F r k s:=⟨_,rfl⟩
 have hB:(addL F n r k L t).1.length≤4000:=by rw [addF_succ,← ht0,hL] at hB0;exact hB0
 have hMt:MkOk F t.2:=by rw [ht0];exact hMk.mark hkl
 have ht:t.1=s.1++[r]:=by rw [ht0,headF_dir hd]
 have ht2:t.2=s.2:=by rw [ht0,headF_dir hd]
 have htl:s.1.length+1=t.1.length:=by rw [ht];simp
 have htl2:=addL_le F n r k L t
 have hr:s.1.length≤4000:=ω
 refine enterR Tryz.func60 rfl (N:=74) Tryz.ntmps60 (by show 3≤74;decide) [(0,π sg),(1,.agg #[ν r.dp,.string r.nm,ν r.cl,ν r.fd,ν r.fl,σ r.dt]),(2,π (A.ad k))] rfl fun _ h1=>sqr fun _ hK3=>so (wn rfl) fun _ hK1=>xbox h1 rfl rfl rfl rfl rfl (z:=[ν r.dp,.string r.nm,ν r.cl,ν r.fd,ν r.fl,σ r.dt]) rfl hS fun _ g4 w7 h5 s8 _ _=>hK1 _ _ ?_
 refine wpList_nil<|hK3 _ _<|sq fun _ hK2=>sqr fun _ hK4=>mvs 2 h5 rfl fun _ h2=>sv1 h2 rfl (v:=π (A.ad k)) (rfa h2 rfl rfl (fun w=>fz_posix_node_0 (A.ad k) 0 w)) fun _ h3=>sw1 h3 rfl (v:=ν (kindI (F.dir k))) (rld h3 rfl rfl (NdP.c0 (F:=FsM.nE F) (A:=AdM.nC A) (k:=k) (s8.get 5 rfl:NdP _ _ _) (show k<F.N.length from ω) υ3 rfl)) fun _ h4=>bv h4 (z:=.bool (!(F.dir k))) rfl (cEq _ _ _ _ (kind1 _)) fun _ h6=>h6.sn [12,4,0,1,2] rfl fun h7=>hK4 _ _<|wcF h7 rfl (bNotT hd)<|h7.sk [4,0,1,2] rfl fun h8=>?_
 refine wp_skip<|hK2 _ _<|sq fun K1 hK5=>?_
 have hJ27:∀ (p5:Option Addr) (c5:Nat) a' w',Kn 74 [(4,π g4),(0,π sg),(1,.agg #[ν r.dp,.string r.nm,ν r.cl,ν r.fd,ν r.fl,σ r.dt]),(2,π (A.ad k))] a'→Sep w' [blkC g4 76 [ν r.dp,.string r.nm,ν r.cl,ν r.fd,ν r.fl,σ r.dt],blkC sg 101 [.slice p5 t.1.length c5,.map (some fb)],ownC 0 76 6 p5 t.1.length c5 (t.1.flatMap rowE),pmC iV fb (flL A s.2),blkC cf 65 [π (A.ad 0),.map (some ob)],nodX F A,mapC KO ob A.C (opG F A),Ch.many R]→K1 a' w':=by
  intro p5 c5 a1 w2 h9 s1
  refine hK5 _ _ ?_
  refine sqr fun _ hK6=>mv h9 rfl fun _ h10=>cl h10 rfl cz_posix_node_sorted ((by have z:=sortedC_c (cf:=cf) (A:=A) (F:=F) (s1.pk [4,5,6,0,1,2,3,7] rfl) hok hz0 hkl hd;rw [hL] at z;exact z)) fun _ v1 w3 r1 h11=>?_
  obtain ⟨sax35,scx36,rfl,s2⟩:=r1
  refine sv1 h11 rfl (v:=ν (L.length:Int)) (rlenS h11 rfl rfl υ33) fun _ h12=>mv h12 rfl fun _ h13=>h13.sn [56,55,54,4,0,1,2] rfl fun h14=>hK6 _ _<|wp_block ?_
  have s3:Sep w3 [ownC 0 9 1 sax35 L.length scx36 (L.flatMap sE),blkC g4 76 [ν r.dp,.string r.nm,ν r.cl,ν r.fd,ν r.fl,σ r.dt],blkC sg 101 [.slice p5 ((addL F n r k (L.take 0) t).1.length) c5,.map (some fb)],ownC 0 76 6 p5 ((addL F n r k (L.take 0) t).1).length c5 (((addL F n r k (L.take 0) t).1).flatMap rowE),pmC iV fb (flL A (addL F n r k (L.take 0) t).2),blkC cf 65 [π (A.ad 0),.map (some ob)],nodX F A,mapC KO ob A.C (opG F A),Ch.many R]:=by rw [List.take_zero,show addL F n r k [] t=t from rfl,ht2];exact (s2.pk [0,4,5,6,7,1,2,3,8] rfl)
  refine wp_loop3 (fun (j:Nat) (ra2:Option Addr) (rc2:Nat) a' w'=>Kn 74 [(56,ν (j:Int)),(55,ν (L.length:Int)),(54,.slice sax35 L.length scx36),(4,π g4),(0,π sg),(1,.agg #[ν r.dp,.string r.nm,ν r.cl,ν r.fd,ν r.fl,σ r.dt]),(2,π (A.ad k))] a'∧Sep w' [ownC 0 9 1 sax35 L.length scx36 (L.flatMap sE),blkC g4 76 [ν r.dp,.string r.nm,ν r.cl,ν r.fd,ν r.fl,σ r.dt],blkC sg 101 [.slice ra2 ((addL F n r k (L.take j) t).1.length) rc2,.map (some fb)],ownC 0 76 6 ra2 ((addL F n r k (L.take j) t).1).length rc2 (((addL F n r k (L.take j) t).1).flatMap rowE),pmC iV fb (flL A (addL F n r k (L.take j) t).2),blkC cf 65 [π (A.ad 0),.map (some ob)],nodX F A,mapC KO ob A.C (opG F A),Ch.many R]∧(j≤L.length)) (fun (j:Nat) (ra2:Option Addr) (rc2:Nat)=>L.length-j) 0 p5 c5 ⟨h14.subs rfl,s3,Nat.zero_le _⟩ ?_
  rintro j56 ra257 rc258 a2 w4 ⟨h15,s4,hj55⟩ K2 hK7
  refine sqr fun _ hK8=>bv h15 (z:=.bool (decide ((j56:Int)<(L.length:Int)))) rfl (cLt _ _ _ _ rfl) fun _ h16=>wpList_nil<|hK8 _ _<|sq fun _ hK9=>?_
  rcases bC (decide ((j56:Int)<(L.length:Int))) with hc1 | hc1
  ·skip
   have hp1:(j56:Int)<(L.length:Int):=(dT hc1)
   refine wcT h16 rfl hc1<|h16.sk [56,55,54,4,0,1,2] rfl fun h17=>wp_skip<|hK9 _ _<|sq fun _ hK10=>wp_block ?_
   refine sq fun _ hK11=>wp_region_lit ?_
   obtain ⟨q68,hq1⟩:=own_addr (s4.get 0 rfl:Own _ _ _ _ _ _ _ _)
   refine sv1 h17 rfl (v:=.pointer (some ⟨q68,j56,none⟩)) (rindexA h17 rfl rfl rfl (fun w=>ixO υ33 κ (sz:=1) (hq1 ω) (j:=j56) rfl ω ω w)) fun _ h18=>sw1 h18 rfl (v:=.string (L.getD j56 noNm)) (rld h18 rfl rfl (ldOSc sE_len υ9 rfl (s4.get 0 rfl:Own _ _ _ _ _ _ _ _) (hq1 ω) noNm (j:=j56) (f:=0) ω (by decide) ω rfl)) fun _ h19=>mv h19 rfl fun _ h20=>h20.sn [7,56,55,54,4,0,1,2] rfl fun h21=>hK11 _ _ ?_
   have hx:(L.getD j56 noNm)∈sortN (namesOf F.E k):=by rw [hL,List.getD_eq_getElem?_getD,List.getElem?_eq_getElem ω];exact List.getElem_mem _
   have hlk:=(child_look hok hx).1
   have hcl:=child_lt hok k (L.getD j56 noNm)
   have hbd:(addF F n (subR r (L.getD j56 noNm)) (childF F k (L.getD j56 noNm)) (addL F n r k (L.take j56) t)).1.length≤4000:=by rw [addL_step F n r k t (ω:j56<L.length)];exact Nat.le_trans (addL_take F n r k L _ t) hB
   have s5:=s4.drew
   refine wp_region_held_drew (S:=fun w'=>Sep w' [ownC 0 9 1 sax35 L.length scx36 (L.flatMap sE),blkC g4 76 [ν r.dp,.string r.nm,ν r.cl,ν r.fd,ν r.fl,σ r.dt],blkC cf 65 [π (A.ad 0),.map (some ob)],nodX F A,mapC KO ob A.C (opG F A),Ch.many R]) κ (s5.pk [0,1,5,6,7,8] rfl) (fun hq2=>?_)
   refine tv1 hq2 h21 0 rfl rfl (v:=π sg) (fun w1 _=>(rmove h21 rfl rfl) w1) fun _ h22=>?_
   refine tv1 hq2 h22 1 rfl rfl (v:=π g4) (fun w1 _=>(rfa h22 rfl rfl (fun w=>fa_posix_row_rd_0 g4 0 w)) w1) fun _ h23=>?_
   refine tv1 hq2 h23 2 rfl rfl (v:=ν r.dp) (fun w1 hSw=>(rld h23 rfl rfl (ldB υ3 rfl (hSw.get 1 rfl:Blk _ _ _ _) rfl))) fun _ h24=>?_
   refine tv1 hq2 h24 3 rfl rfl (v:=ν (r.dp+1)) (fun w1 _=>(rbin h24 rfl rfl rfl (bAdd _ _ _ ω ω ω)) w1) fun _ h25=>?_
   refine tv1 hq2 h25 4 rfl rfl (v:=.string (L.getD j56 noNm)) (fun w1 _=>(rmove h25 rfl rfl) w1) fun _ h26=>?_
   refine tv1 hq2 h26 5 rfl rfl (v:=.agg #[ν (r.dp+1),.string (L.getD j56 noNm),ν 0,ν 0,ν 0,σ []]) (fun w1 _=>(rbuild h26 (xs:=[(0,.tmp 63),(1,.tmp 64)]) rfl (vs:=[(0,ν (r.dp+1)),(1,.string (L.getD j56 noNm))]) rfl (fun w=>κ)) w1) fun _ h27=>?_
   refine tv1 hq2 h27 6 rfl rfl (v:=π (A.ad k)) (fun w1 _=>(rmove h27 rfl rfl) w1) fun _ h28=>?_
   refine tv1 hq2 h28 7 rfl rfl (v:=π (A.ad k)) (fun w1 _=>(rnil h28 rfl rfl) w1) fun _ h29=>?_
   refine tv1 hq2 h29 8 rfl rfl (v:=.pointer (some ⟨(A.ad k),3,none⟩)) (fun w1 _=>(rfa h29 rfl rfl (fun w=>fz_posix_node_3 (A.ad k) 0 w)) w1) fun _ h30=>?_
   refine tv1 hq2 h30 10 rfl rfl (v:=.string (L.getD j56 noNm)) (fun w1 _=>(rmove h30 rfl rfl) w1) fun _ h31=>?_
   refine to_ 9 rfl (wn rfl) κ fun _ hK12=>xval h31 rfl rfl rfl (v:=.map (some (A.mb k))) (w':=w4.drew) ((rld h31 rfl rfl (NdP.c3 (F:=FsM.nE F) (A:=AdM.nC A) (k:=k) (s5.get 6 rfl:NdP _ _ _) (show k<F.N.length from ω) hd υ95 rfl))) fun _ h32=>hK12 _ _ (s5.pk [0,1,5,6,7,8] rfl) fun hq3=>?_
   refine to_ 11 rfl (wn rfl) κ fun _ hK13=>xval h32 rfl rfl rfl (v:=π (A.ad (childF F k (L.getD j56 noNm)))) (w':=w4.drew) ((rlook h32 rfl rfl rfl (NdP.lookY (F:=FsM.nE F) (A:=AdM.nC A) (k:=k) (s5.get 6 rfl:NdP _ _ _) (show k<F.N.length from ω) hd (may_max (names_may hok ((sortN_perm _).mem_iff.1 hx))) hlk))) fun _ h33=>hK13 _ _ (s5.pk [0,1,5,6,7,8] rfl) fun hq4=>?_
   refine to_ 12 rfl (wn rfl) κ fun _ hK14=>xcall h33 rfl rfl rfl (xs:=[.tmp 60,.tmp 65,.tmp 71]) rfl cp_posix_shape_add_rd rfl (vs:=[π sg,.agg #[ν (r.dp+1),.string (L.getD j56 noNm),ν 0,ν 0,ν 0,σ []],π (A.ad (childF F k (L.getD j56 noNm)))]) rfl (args:=#[π sg,.agg #[ν (r.dp+1),.string (L.getD j56 noNm),ν 0,ν 0,ν 0,σ []],π (A.ad (childF F k (L.getD j56 noNm)))]) rfl (ih (s:=(addL F n r k (L.take j56) t)) (r:=subR r (L.getD j56 noNm)) (k:=childF F k (L.getD j56 noNm)) (Fuel.sub hok hfu hx) hcl (MkOk.addL hok n r k _ t hMt) hbd (ω:0≤r.dp+1) (ω:r.dp+1+(n:Int)≤3000) (s5.pk [2,3,4,5,6,7,0,1,8] rfl)) fun _ v2 w5 r2 h34=>?_
   obtain ⟨rax108,rcx109,rfl,s6⟩:=r2
   refine hK14 _ _ (s6.pk [6,7,3,4,5,8] rfl) fun hq5=>h34.sk [7,56,55,54,4,0,1,2] rfl fun h35=>?_
   refine wpAnyH_done κ ?_ _
   refine hK10 _ _ ?_
   refine wp_region_lit<|bv h35 (z:=ν ((j56+1:Nat):Int)) rfl (bAdd _ _ _ ω ω ω) fun _ h36=>h36.sk [73,7,55,54,4,0,1,2] rfl fun h37=>mv h37 rfl fun _ h38=>h38.sk [56,7,55,54,4,0,1,2] rfl fun h39=>wpList_nil ?_
   exact hK7 (j56+1) rax108 rcx109 _ _ ⟨h39.subs rfl,(by rw [← addL_step F n r k t (ω:j56<L.length)];exact (s6.pk [6,7,0,1,2,3,4,5,8] rfl)),ω⟩ ω
  ·skip
   have hp2:¬ ((j56:Int)<(L.length:Int)):=(dF hc1)
   refine wcF h16 rfl hc1<|h16.sk [56,55,54,4,0,1,2] rfl fun h40=>wp_exit ?_
   simp only [Exit.then,Exit.inBlock,↓reduceIte,Nat.reduceEqDiff]
   refine endR (v:=.tuple #[]) (fun _=>res0 rfl _) h40.defs ?_
   rw [addF_succ,← ht0,hL]
   have hjl:j56=L.length:=ω
   rw [hjl,List.take_length] at s4
   exact ⟨_,_,rfl,Sep.tail_un (xs:=[_,_,_,_,_,_]) (s4.pk [2,3,4,5,6,7,8] rfl)⟩
 have s7:=s8.drew
 refine wp_region_held_drew (S:=fun w'=>Sep w' [blkC g4 76 [ν r.dp,.string r.nm,ν r.cl,ν r.fd,ν r.fl,σ r.dt],pmC iV fb (flL A s.2),blkC cf 65 [π (A.ad 0),.map (some ob)],nodX F A,mapC KO ob A.C (opG F A),Ch.many R]) κ (s7.pk [0,3,4,5,6,7] rfl) (fun hq6=>?_)
 refine tv1 hq6 h8 0 rfl rfl (v:=π sg) (fun w1 _=>(rmove h8 rfl rfl) w1) fun _ h41=>?_
 refine tv1 hq6 h41 1 rfl rfl (v:=π sg) (fun w1 _=>(rmove h41 rfl rfl) w1) fun _ h42=>?_
 refine tv1 hq6 h42 2 rfl rfl (v:=π sg) (fun w1 _=>(rnil h42 rfl rfl) w1) fun _ h43=>?_
 refine tv1 hq6 h43 3 rfl rfl (v:=π sg) (fun w1 _=>(rfa h43 rfl rfl (fun w=>fa_posix_shape_rd_0 sg 0 w)) w1) fun _ h44=>?_
 refine tv1 hq6 h44 5 rfl rfl (v:=.agg #[ν r.dp,.string r.nm,ν r.cl,ν r.fd,ν r.fl,σ r.dt]) (fun w1 hSw=>(rld h44 rfl rfl (ldA υ76 rfl (n:=6) κ (hSw.get 0 rfl:Blk _ _ _ _) rfl rfl))) fun _ h45=>?_
 refine wpAnyH_ready (rs:=[4,6]) κ (by simp) (toc rfl (wn rfl) (fun K3 hK15=>?_) (toc rfl (wn rfl) (fun K3 hK15=>?_) AllReadyH.nil))
 ·skip
  refine xval h45 rfl rfl rfl (v:=.slice ra s.1.length rc) (w':=w7.drew) ((rld h45 rfl rfl (ldB υ74 rfl (s7.get 1 rfl:Blk _ _ _ _) rfl))) fun _ h46=>hK15 _ _ (s7.pk [0,3,4,5,6,7] rfl) fun hq7=>?_
  refine to_ 6 rfl (wn rfl) κ fun _ hK16=>xbuildS h46 rfl rfl rfl (E:=76) (xs:=[(0,.tmp 48)]) rfl (vs:=[(0,.agg #[ν r.dp,.string r.nm,ν r.cl,ν r.fd,ν r.fl,σ r.dt])]) rfl (z:=[ν r.dp,.string r.nm,ν r.cl,ν r.fd,ν r.fl,σ r.dt]) (fun _=>κ) s7 fun _ g1 w6 h47 s9 _ _=>?_
  refine hK16 _ _ (s9.pk [1,4,5,6,7,8] rfl) fun hq8=>?_
  refine to_ 7 rfl (wn rfl) κ fun _ hK17=>xappS rowE_len h47 rfl rfl rfl rfl ERw s9 3 rfl rfl 0 (y:=(⟨r.dp,r.nm,r.cl,r.fd,r.fl,r.dt⟩:RowM)) rfl rfl rfl (by decide) ω (L':=t.1) ht.symm fun _ p152 c153 w8 h48 s10=>?_
  have s11:=s10.pk [1,2,3,4,5,6,7,8] rfl;clear s10
  refine hK17 _ _ (s11.pk [0,3,4,5,6,7] rfl) fun hq9=>?_
  refine tv1 hq9 h48 8 rfl rfl (v:=π sg) (fun w1 _=>(rnil h48 rfl rfl) w1) fun _ h49=>?_
  refine tv1 hq9 h49 9 rfl rfl (v:=π sg) (fun w1 _=>(rfa h49 rfl rfl (fun w=>fa_posix_shape_rd_0 sg 0 w)) w1) fun _ h50=>?_
  refine to_ 10 rfl (wn rfl) κ fun _ hK18=>xstore h50 rfl rfl s11 1 rfl rfl rfl [.slice p152 t.1.length c153] rfl κ rfl (by show 0+1≤2;decide) (L':=[.slice p152 t.1.length c153,.map (some fb)]) rfl (cs':=[blkC g4 76 [ν r.dp,.string r.nm,ν r.cl,ν r.fd,ν r.fl,σ r.dt],blkC sg 101 [.slice p152 t.1.length c153,.map (some fb)],ownC 0 76 6 p152 t.1.length c153 (t.1.flatMap rowE),pmC iV fb (flL A s.2),blkC cf 65 [π (A.ad 0),.map (some ob)],nodX F A,mapC KO ob A.C (opG F A),Ch.many R]) rfl fun _ w9 h51 s12 _=>?_
  refine hK18 _ _ (s12.pk [0,3,4,5,6,7] rfl) fun hq10=>h51.sk [4,0,1,2] rfl fun h52=>?_
  refine wpAnyH_done κ ?_ _
  exact hJ27 p152 c153 _ _ (h52.subs rfl) s12 
 ·skip
  refine xbuildS h45 rfl rfl rfl (E:=76) (xs:=[(0,.tmp 48)]) rfl (vs:=[(0,.agg #[ν r.dp,.string r.nm,ν r.cl,ν r.fd,ν r.fl,σ r.dt])]) rfl (z:=[ν r.dp,.string r.nm,ν r.cl,ν r.fd,ν r.fl,σ r.dt]) (fun _=>κ) s7 fun _ g2 w10 h53 s13 _ _=>hK15 _ _ (s13.pk [1,4,5,6,7,8] rfl) fun hq11=>?_
  refine to_ 4 rfl (wn rfl) κ fun _ hK19=>xval h53 rfl rfl rfl (v:=.slice ra s.1.length rc) (w':=w10) ((rld h53 rfl rfl (ldB υ74 rfl (s13.get 2 rfl:Blk _ _ _ _) rfl))) fun _ h54=>hK19 _ _ (s13.pk [1,4,5,6,7,8] rfl) fun hq12=>?_
  refine to_ 7 rfl (wn rfl) κ fun _ hK20=>xappS rowE_len h54 rfl rfl rfl rfl ERw s13 3 rfl rfl 0 (y:=(⟨r.dp,r.nm,r.cl,r.fd,r.fl,r.dt⟩:RowM)) rfl rfl rfl (by decide) ω (L':=t.1) ht.symm fun _ p185 c186 w11 h55 s14=>?_
  have s15:=s14.pk [1,2,3,4,5,6,7,8] rfl;clear s14
  refine hK20 _ _ (s15.pk [0,3,4,5,6,7] rfl) fun hq13=>?_
  refine tv1 hq13 h55 8 rfl rfl (v:=π sg) (fun w1 _=>(rnil h55 rfl rfl) w1) fun _ h56=>?_
  refine tv1 hq13 h56 9 rfl rfl (v:=π sg) (fun w1 _=>(rfa h56 rfl rfl (fun w=>fa_posix_shape_rd_0 sg 0 w)) w1) fun _ h57=>?_
  refine to_ 10 rfl (wn rfl) κ fun _ hK21=>xstore h57 rfl rfl s15 1 rfl rfl rfl [.slice p185 t.1.length c186] rfl κ rfl (by show 0+1≤2;decide) (L':=[.slice p185 t.1.length c186,.map (some fb)]) rfl (cs':=[blkC g4 76 [ν r.dp,.string r.nm,ν r.cl,ν r.fd,ν r.fl,σ r.dt],blkC sg 101 [.slice p185 t.1.length c186,.map (some fb)],ownC 0 76 6 p185 t.1.length c186 (t.1.flatMap rowE),pmC iV fb (flL A s.2),blkC cf 65 [π (A.ad 0),.map (some ob)],nodX F A,mapC KO ob A.C (opG F A),Ch.many R]) rfl fun _ w12 h58 s16 _=>?_
  refine hK21 _ _ (s16.pk [0,3,4,5,6,7] rfl) fun hq14=>h58.sk [4,0,1,2] rfl fun h59=>?_
  refine wpAnyH_done κ ?_ _
  exact hJ27 p185 c186 _ _ (h59.subs rfl) s16 
theorem add_c {F:FsM} {A:AdM} {δ:Nat→Int} {cf ob sg fb:Nat} (hok:FsC F δ) (hz:SmF F):∀ (n:Nat) {w:World} {ra:Option Addr} {rc:Nat} {s:Rows} {r:RowM} {k:Nat} {R:List Ch},Fuel F n k→k<F.N.length→MkOk F s.2→(addF F n r k s).1.length≤4000→0≤r.dp→r.dp+(n:Int)≤3000→Sep w ([blkC sg 101 [.slice ra s.1.length rc,.map (some fb)],ownC 0 76 6 ra s.1.length rc (s.1.flatMap rowE),pmC iV fb (flL A s.2),blkC cf 65 [π (A.ad 0),.map (some ob)],nodX F A,mapC KO ob A.C (opG F A)]++R)→CallsR Tryz.prog 60 #[π sg,.agg #[ν r.dp,.string r.nm,ν r.cl,ν r.fd,ν r.fl,σ r.dt],π (A.ad k)] w (fun v w'=>∃ ra' rc',v=.tuple #[]∧Sep w' ([blkC sg 101 [.slice ra' ((addF F n r k s).1.length) rc',.map (some fb)],ownC 0 76 6 ra' ((addF F n r k s).1).length rc' (((addF F n r k s).1).flatMap rowE),pmC iV fb (flL A (addF F n r k s).2),blkC cf 65 [π (A.ad 0),.map (some ob)],nodX F A,mapC KO ob A.C (opG F A)]++R))
 | n,w,ra,rc,s,r,k,R,hfu,hk,hM,hB,h0,h1,hS=>by
  cases hd:F.dir k with
  | false=>
   rw [addF_file hok hd] at hB ⊢
   have:=headF_len F r k s
   by_cases hm:k∈s.2
   ·exact addOld_c hS hok hz hk hM hd hm ω
   ·exact addNew_c hS hok hz hk hM hd hm ω
  | true=>
   obtain ⟨m,rfl⟩:=hfu.pos hok hd
   exact addD_c hS hok hz hk hM hd hfu hB h0 h1 (fun a b c d e f g=>add_c hok hz m a b c d e f g)
termination_by n=>n
end
section
theorem kvC_len (p:Int×Int):(kvC p).length=2:=rfl
theorem addO_step (F:FsM) (t:Rows) {P:List (Int×Int)} {j:Nat} (hj:j<P.length):headF F (fdR0 (P.getD j (0,0))) (nodO1 F (P.getD j (0,0))) (addO F (P.take j) t)=addO F (P.take (j+1)) t:=by
 rw [← addO_snoc,List.take_succ_eq_append_getElem hj,List.getD_eq_getElem?_getD,List.getElem?_eq_getElem hj];rfl
theorem nodO1_look {F:FsM} {δ:Nat→Int} (hF:FsC F δ) {p:Int×Int} (h:p∈fdsF F):lookO F.O p.1 p.2=some (nodO1 F p):=by
 obtain ⟨m,hm⟩:=Option.isSome_iff_exists.1 ((fdsF_mem hF).1 h)
 unfold nodO1;rw [hm];rfl
theorem MkOk.addO {F:FsM} {δ:Nat→Int} (hF:FsC F δ) (P:List (Int×Int)) (t:Rows) (h:MkOk F t.2):MkOk F (addO F P t).2:=by
 induction P generalizing t with
 | nil=>exact h
 | cons p P ih=>
  refine ih _ (h.mark ?_)
  unfold nodO1
  cases hl:lookO F.O p.1 p.2 with
  | none=>exact hF.n0.1
  | some m=>exact (hF.look_fd hl).1
theorem cp_posix_shape_add_rs (args:Array Value) (w:World):(callFunc 60 args).run Tryz.prog w=.ok (.enter 60 args) w:=by
 have h:=Tryz.func60
 go_simp
theorem cp_maps_Keys_map_posix_descriptor_posix_node_posix_descriptor_posix_node_rs (args:Array Value) (w:World):(callFunc 62 args).run Tryz.prog w=.ok (.enter 62 args) w:=by
 have h:=Tryz.func62
 go_simp
theorem cp_slices_SortedFunc_posix_descriptor_rs (args:Array Value) (w:World):(callFunc 61 args).run Tryz.prog w=.ok (.enter 61 args) w:=by
 have h:=Tryz.func61
 go_simp
theorem fa_posix_shape_rs_0 (g off:Nat) (w:World):(Instr.fieldAt 101 (.pointer (some ⟨g,off,none⟩)) 0).run Tryz.prog w=.ok (.pointer (some ⟨g,off+0,none⟩)) w:=rfl
theorem rows_c {w:World} {cf ob:Nat} {F:FsM} {A:AdM} {R:List Ch} {δ:Nat→Int} (hS0:Sep w ((cP cf ob F A)++R)) (hok:FsC F δ) (hz:SmF F) :
  CallsR Tryz.prog 31 #[π cf] w (fun v w'=>∃ xa xc,v=.slice xa (rowsF F).length xc∧Sep w' (ownC 0 76 6 xa (rowsF F).length xc ((rowsF F).flatMap rowE)::(cP cf ob F A)++R)):=by
 have hS:=Sep.tail_many (xs:=cP cf ob F A) hS0;clear hS0
 have hz0:=hz;obtain ⟨hz1,hz2,hz3⟩:F.N.length≤1000∧F.E.length≤1000∧F.O.length≤1000:=hz
 obtain ⟨t0,ht0⟩:∃ t,t=addF F 1000 row0 0 ([],[]):=⟨_,rfl⟩
 obtain ⟨P,hP⟩:∃ P,fdsF F=P:=⟨_,rfl⟩
 have hPl:(fdsF F).length=P.length:=by rw [hP]
 have hPn:=fdsF_len F
 have hB:=rows_len hok 1000
 rw [← ht0] at hB
 have hMt:MkOk F t0.2:=by rw [ht0];exact MkOk.add hok 1000 row0 0 ([],[]) MkOk.nil hok.n0.1
 have hn0:=hok.n0.1
 refine enterR Tryz.func31 rfl (N:=42) Tryz.ntmps31 (by show 1≤42;decide) [(0,π cf)] rfl fun _ h1=>sqr fun _ hK3=>mv h1 rfl fun _ h4=>wpList_nil<|hK3 _ _<|sqr fun _ hK6=>so (wn rfl) fun _ hK1=>xmakeP (av:=iV) h4 rfl rfl rfl rfl hS fun _ fb7 w2 h8 s1=>hK1 _ _ ?_
 refine bu h8 (v:=.agg #[.slice none 0 0,.map (some fb7)]) rfl (fun w=>κ) fun _ h2=>so (wn rfl) fun _ hK2=>xbox h2 rfl rfl rfl rfl rfl (z:=[.slice none 0 0,.map (some fb7)]) rfl s1 fun _ g1 w3 h3 s2 _ _=>hK2 _ _ ?_
 refine mv h3 rfl fun _ h5=>h5.sn [3,2,0] rfl fun h6=>hK6 _ _<|sq fun _ hK4=>?_
 have s3:=s2.ownNil 0 76 6
 refine wp_region_lit<|mv h6 rfl fun _ h7=>bu h7 (v:=.agg #[ν 0,σ [],ν 0,ν 0,ν 0,σ []]) rfl (fun w=>κ) fun _ h9=>mvs 2 h9 rfl fun _ h10=>fav h10 rfl (fz_posix_Fs_0 _ _) fun _ h11=>ldv h11 s3 3 υ62 rfl rfl rfl rfl fun _ h12=>cl h12 rfl cp_posix_shape_add_rs ((by have z:=add_c (s:=([],[])) (r:=row0) (k:=0) (cf:=cf) (ob:=ob) (A:=A) hok hz0 1000 (fun _=>⟨[],rfl,by rw [List.length_nil];omega⟩) hok.n0.1 MkOk.nil (by rw [← ht0];omega) (by decide) (by decide) (s3.pk [1,0,2,3,4,5,6] rfl);rw [← ht0] at z;exact z)) fun _ v1 w4 r1 h13=>?_
 obtain ⟨rax40,rcx41,rfl,s4⟩:=r1
 refine h13.sn [3,2,0] rfl fun h14=>hK4 _ _<|sq fun _ hK5=>sqr fun _ hK7=>mvs 2 h14 rfl fun _ h15=>fav h15 rfl (fz_posix_Fs_1 _ _) fun _ h16=>ldv h16 s4 3 υ63 rfl rfl rfl rfl fun _ h17=>cl h17 rfl cp_maps_Keys_map_posix_descriptor_posix_node_posix_descriptor_posix_node_rs (keysD_s (s4.pk [5,0,1,2,3,4,6] rfl)) fun _ v2 w5 r2 h18=>?_
 obtain ⟨lb67,rfl,hky66,s5⟩:=r2
 refine cl h18 rfl cp_slices_SortedFunc_posix_descriptor_rs (sortedD_s (F:=F) s5 hky66 (keysF_in hok) (by have:=fdsF_len F;omega) (fun h=>keysF hok h)) fun _ v3 w6 r3 h19=>?_
 obtain ⟨dax69,dcx70,rfl,s6⟩:=r3
 refine sv1 h19 rfl (v:=ν (((fdsF F).length:Nat):Int)) (rlenS h19 rfl rfl υ103) fun _ h20=>mv h20 rfl fun _ h21=>h21.sn [23,22,21,3,2,0] rfl fun h22=>hK7 _ _<|wp_block ?_
 have s7:Sep w6 [ownC 0 68 2 dax69 P.length dcx70 (P.flatMap kvC),blkC g1 101 [.slice rax40 ((addO F (P.take 0) t0).1.length) rcx41,.map (some fb7)],ownC 0 76 6 rax40 ((addO F (P.take 0) t0).1).length rcx41 (((addO F (P.take 0) t0).1).flatMap rowE),pmC iV fb7 (flL A (addO F (P.take 0) t0).2),blkC cf 65 [π (A.ad 0),.map (some ob)],nodX F A,mapC KO ob A.C (opG F A),Ch.many R]:=by rw [List.take_zero,show addO F [] t0=t0 from rfl,← hP];exact (s6.pk [0,2,3,4,5,6,1,7] rfl)
 rw [hPl] at h22
 refine wp_loop3 (fun (j:Nat) (ra2:Option Addr) (rc2:Nat) a' w'=>Kn 42 [(23,ν (j:Int)),(22,ν ((P.length:Nat):Int)),(21,.slice dax69 P.length dcx70),(3,π g1),(2,.slice none 0 0),(0,π cf)] a'∧Sep w' [ownC 0 68 2 dax69 P.length dcx70 (P.flatMap kvC),blkC g1 101 [.slice ra2 ((addO F (P.take j) t0).1.length) rc2,.map (some fb7)],ownC 0 76 6 ra2 ((addO F (P.take j) t0).1).length rc2 (((addO F (P.take j) t0).1).flatMap rowE),pmC iV fb7 (flL A (addO F (P.take j) t0).2),blkC cf 65 [π (A.ad 0),.map (some ob)],nodX F A,mapC KO ob A.C (opG F A),Ch.many R]∧(j≤P.length)) (fun (j:Nat) (ra2:Option Addr) (rc2:Nat)=>P.length-j) 0 rax40 rcx41 ⟨h22.subs rfl,s7,Nat.zero_le _⟩ ?_
 rintro j90 ra291 rc292 a1 w7 ⟨h23,s8,hj89⟩ K1 hK8
 refine sqr fun _ hK9=>bv h23 (z:=.bool (decide ((j90:Int)<((P.length:Nat):Int)))) rfl (cLt _ _ _ _ rfl) fun _ h24=>wpList_nil<|hK9 _ _<|sq fun _ hK10=>?_
 rcases bC (decide ((j90:Int)<((P.length:Nat):Int))) with hc1 | hc1
 ·skip
  have hp1:(j90:Int)<((P.length:Nat):Int):=(dT hc1)
  refine wcT h24 rfl hc1<|h24.sk [23,22,21,3,2,0] rfl fun h25=>wp_skip<|hK10 _ _<|sq fun _ hK11=>wp_block ?_
  refine sq fun _ hK12=>wp_region_lit ?_
  obtain ⟨q102,hq1⟩:=own_addr (s8.get 0 rfl:Own _ _ _ _ _ _ _ _)
  refine sv1 h25 rfl (v:=.pointer (some ⟨q102,j90*2,none⟩)) (rindexA h25 rfl rfl rfl (fun w=>ixO υ103 κ (sz:=2) (hq1 ω) (j:=j90) rfl ω ω w)) fun _ h26=>sw1 h26 rfl (v:=.agg #[ν ((P.getD j90 (0,0)).1),ν ((P.getD j90 (0,0)).2)]) (rld h26 rfl rfl (ldOS kvC_len υ68 rfl κ (s8.get 0 rfl:Own _ _ _ _ _ _ _ _) (hq1 ω) (0,0) ω rfl)) fun _ h27=>so (wn rfl) fun _ hK13=>xalloc h27 rfl rfl rfl rfl (z:=[ν 0,ν 0]) (fun _=>rfl) s8 fun _ g2 w8 h28 s9 _ _=>hK13 _ _ ?_
  refine stA h28 s9 0 rfl rfl rfl κ rfl rfl rfl rfl fun _ w9 h29 s10 _=>h29.sn [5,23,22,21,3,2,0] rfl fun h30=>hK12 _ _ ?_
  have hx:(P.getD j90 (0,0))∈fdsF F:=by rw [hP,List.getD_eq_getElem?_getD,List.getElem?_eq_getElem ω];exact List.getElem_mem _
  have hlk:=nodO1_look hok hx
  have hnf:=hok.look_fd hlk
  have hwx:=wfO hok hlk
  have hbd:(addF F 0 (fdR0 (P.getD j90 (0,0))) (nodO1 F (P.getD j90 (0,0))) (addO F (P.take j90) t0)).1.length≤4000:=by show (headF _ _ _ _).1.length≤_;rw [headF_len,addO_len,List.length_take];omega
  have s11:=s10.drew
  refine wp_region_held_drew (S:=fun w'=>Sep w' [blkC g2 68 [ν ((P.getD j90 (0,0)).1),ν ((P.getD j90 (0,0)).2)],ownC 0 68 2 dax69 P.length dcx70 (P.flatMap kvC),blkC cf 65 [π (A.ad 0),.map (some ob)],nodX F A,mapC KO ob A.C (opG F A),Ch.many R]) κ (s11.pk [0,1,5,6,7,8] rfl) (fun hq2=>?_)
  refine tv1 hq2 h30 0 rfl rfl (v:=π g1) (fun w1 _=>(rmove h30 rfl rfl) w1) fun _ h31=>?_
  refine tv1 hq2 h31 1 rfl rfl (v:=.agg #[ν ((P.getD j90 (0,0)).1),ν ((P.getD j90 (0,0)).2)]) (fun w1 hSw=>(rld h31 rfl rfl (ldA υ68 rfl (n:=2) κ (hSw.get 0 rfl:Blk _ _ _ _) rfl rfl))) fun _ h32=>?_
  refine tv1 hq2 h32 2 rfl rfl (v:=.agg #[ν 0,σ [],ν ((P.getD j90 (0,0)).1),ν ((P.getD j90 (0,0)).2),ν 0,σ []]) (fun w1 _=>(rbuild h32 (xs:=[(2,.tmp 28)]) rfl (vs:=[(2,.agg #[ν ((P.getD j90 (0,0)).1),ν ((P.getD j90 (0,0)).2)])]) rfl (fun w=>κ)) w1) fun _ h33=>?_
  refine tv1 hq2 h33 3 rfl rfl (v:=π cf) (fun w1 _=>(rmove h33 rfl rfl) w1) fun _ h34=>?_
  refine tv1 hq2 h34 4 rfl rfl (v:=π cf) (fun w1 _=>(rnil h34 rfl rfl) w1) fun _ h35=>?_
  refine tv1 hq2 h35 5 rfl rfl (v:=.pointer (some ⟨cf,1,none⟩)) (fun w1 _=>(rfa h35 rfl rfl (fun w=>fz_posix_Fs_1 cf 0 w)) w1) fun _ h36=>?_
  refine tv1 hq2 h36 6 rfl rfl (v:=.map (some ob)) (fun w1 hSw=>(rld h36 rfl rfl (ldB υ63 rfl (hSw.get 2 rfl:Blk _ _ _ _) rfl))) fun _ h37=>?_
  refine tv1 hq2 h37 7 rfl rfl (v:=.agg #[ν ((P.getD j90 (0,0)).1),ν ((P.getD j90 (0,0)).2)]) (fun w1 hSw=>(rld h37 rfl rfl (ldA υ68 rfl (n:=2) κ (hSw.get 0 rfl:Blk _ _ _ _) rfl rfl))) fun _ h38=>?_
  refine to_ 8 rfl (wn rfl) κ fun _ hK14=>xval h38 rfl rfl rfl (v:=π (A.ad (nodO1 F (P.getD j90 (0,0))))) (w':=w9.drew) ((rlook h38 rfl rfl rfl (op_lookY (F:=F) (A:=A) (s11.get 7 rfl:MapG KO _ _ _ _) hwx hlk))) fun _ h39=>hK14 _ _ (s11.pk [0,1,5,6,7,8] rfl) fun hq3=>?_
  refine to_ 9 rfl (wn rfl) κ fun _ hK15=>xcall h39 rfl rfl rfl (xs:=[.tmp 27,.tmp 29,.tmp 35]) rfl cp_posix_shape_add_rs rfl (vs:=[π g1,.agg #[ν 0,σ [],ν ((P.getD j90 (0,0)).1),ν ((P.getD j90 (0,0)).2),ν 0,σ []],π (A.ad (nodO1 F (P.getD j90 (0,0))))]) rfl (args:=#[π g1,.agg #[ν 0,σ [],ν ((P.getD j90 (0,0)).1),ν ((P.getD j90 (0,0)).2),ν 0,σ []],π (A.ad (nodO1 F (P.getD j90 (0,0))))]) rfl (add_c (s:=(addO F (P.take j90) t0)) (r:=fdR0 (P.getD j90 (0,0))) (k:=nodO1 F (P.getD j90 (0,0))) (cf:=cf) (ob:=ob) (A:=A) hok hz0 0 (fun q=>absurd q (notT2 hnf.2)) hnf.1 (MkOk.addO hok _ _ hMt) hbd (Int.le_refl 0) (show (0:Int)+0≤3000 by decide) (s11.pk [2,3,4,5,6,7,0,1,8] rfl)) fun _ v4 w10 r4 h40=>?_
  obtain ⟨rax146,rcx147,rfl,s12⟩:=r4
  refine hK15 _ _ (s12.pk [6,7,3,4,5,8] rfl) fun hq4=>h40.sk [5,23,22,21,3,2,0] rfl fun h41=>?_
  refine wpAnyH_done κ ?_ _
  refine hK11 _ _ ?_
  refine wp_region_lit<|bv h41 (z:=ν ((j90+1:Nat):Int)) rfl (bAdd _ _ _ ω ω ω) fun _ h42=>h42.sk [37,5,22,21,3,2,0] rfl fun h43=>mv h43 rfl fun _ h44=>h44.sk [23,5,22,21,3,2,0] rfl fun h45=>wpList_nil ?_
  exact hK8 (j90+1) rax146 rcx147 _ _ ⟨h45.subs rfl,(by rw [← addO_step F t0 (ω:j90<P.length)];exact (s12.pk [7,0,1,2,3,4,5,8] rfl)),ω⟩ ω
 ·skip
  have hp2:¬ ((j90:Int)<((P.length:Nat):Int)):=(dF hc1)
  refine wcF h24 rfl hc1<|h24.sk [23,22,21,3,2,0] rfl fun h46=>wp_exit ?_
  refine hK5 _ _ ?_
  refine sqr fun _ hK16=>mvs 2 h46 rfl fun _ h47=>fav h47 rfl (fa_posix_shape_rs_0 _ _) fun _ h48=>ldv h48 s8 1 υ74 rfl rfl rfl rfl fun _ h49=>h49.sk [41,40,39,38,23,22,21,3,0] rfl fun h50=>mv h50 rfl fun _ h51=>h51.sn [2,23,22,21,3,0] rfl fun h52=>hK16 _ _<|wp_ret ?_
  try simp only [Exit.then,Exit.inBlock]
  refine retR (v:=.slice ra291 ((addO F (P.take j90) t0).1.length) rc292) (res1 h52 rfl rfl) h52.defs ?_
  have hjl:j90=P.length:=ω
  rw [hjl,List.take_length] at s8
  have hrw:rowsF F=(addO F P t0).1:=by unfold rowsF rowsS;rw [hP,← ht0]
  rw [hrw]
  exact ⟨_,_,by rw [hjl,List.take_length],Sep.tail_un (xs:=[_,_,_,_]) (s8.pk [2,4,5,6,7] rfl)⟩
end
section
def rowQ (a b:RowM):Bool:=decide (a.dp=b.dp∧a.nm=b.nm∧a.cl=b.cl∧a.fd=b.fd∧a.fl=b.fl∧a.dt=b.dt)
theorem rowQ_iff {a b:RowM}:rowQ a b=true↔a=b:=by
  unfold rowQ
  rw [decide_eq_true_iff]
  obtain ⟨a0,a1,a2,a3,a4,a5⟩:=a
  obtain ⟨b0,b1,b2,b3,b4,b5⟩:=b
  simp
theorem toL_iff (x y:ByteArray):x.toList=y.toList↔x=y:=by
  rw [ByteArray.toList_eq,ByteArray.toList_eq]
  exact ⟨fun h=>ByteArray.ext (Array.toList_inj.1 h),fun h=>by rw [h]⟩
theorem eqRow_in (a b:RowM) (w:World):(Op.equalIn 10000 76 (.agg (rowE a).toArray) (.agg (rowE b).toArray)).run Tryz.prog w=.ok (rowQ a b) w:=by
  obtain ⟨x0,x1,x2,x3,x4,x5⟩:=a
  obtain ⟨y0,y1,y2,y3,y4,y5⟩:=b
  have u3:=υ3
  have a3:=Tryz.isAgg3
  have z3:=Tryz.sizeOf3
  have u9:=υ9
  have a9:=Tryz.isAgg9
  have z9:=Tryz.sizeOf9
  have u68:=υ68
  have a68:=Tryz.isAgg68
  have z68:=Tryz.sizeOf68
  have hS:Tryz.prog.underlying 76=some (.struct (Tryz.prog.fieldsOf 76)):=κ
  have hp:Tryz.prog.stoodInHeld 76=false:=κ
  have hS2:Tryz.prog.underlying 68=some (.struct (Tryz.prog.fieldsOf 68)):=κ
  have hp2:Tryz.prog.stoodInHeld 68=false:=κ
  show (Op.equalIn 10000 76 (.agg #[ν x0,.string x1,ν x2,ν x3,ν x4,σ x5]) (.agg #[ν y0,.string y1,ν y2,ν y3,ν y4,σ y5])).run Tryz.prog w=_
  rw [show (10000:Nat)=9999+1 from rfl,run_equalIn_agg w 9999 76 _ _ hS hp]
  simp only [Program.fieldsOf,υ76]
  go_simp
  simp only [toL_iff,strB_inj]
  unfold rowQ
  by_cases h0:x0=y0
  case neg=>simp [h0]
  by_cases h1:x1=y1
  case neg=>simp [h1]
  by_cases h2:x2=y2
  case neg=>simp [h2]
  by_cases h3:x3=y3
  case neg=>simp [h3]
  by_cases h4:x4=y4
  case neg=>simp [h4]
  by_cases h5:x5=y5
  case neg=>simp [h5]
  simp [h0,h1,h2,h3,h4,h5]
theorem eqRow_neq (o p:Operand) (a b:RowM) (w:World):(do eqGuard .neq 76 o p (.agg (rowE a).toArray) (.agg (rowE b).toArray);binOp .neq 76 (.agg (rowE a).toArray) (.agg (rowE b).toArray):Sem Value).run Tryz.prog w=.ok (.bool (!rowQ a b)) w:=by
  rw [Sem.run_bind,run_eqGuard_agg (P:=Tryz.prog) w .neq 76 o p _ _ κ]
  show (binOp .neq 76 _ _).run Tryz.prog w=_
  rw [run_neq_struct,eqRow_in]
  rfl
def rowsQ (L M:List RowM):Bool:=decide (L.length=M.length)&&(List.range L.length).all fun i=>rowQ (L.getD i row0) (M.getD i row0)
theorem rowsQ_iff {L M:List RowM}:rowsQ L M=true↔L=M:=by
  unfold rowsQ
  rw [Bool.and_eq_true,decide_eq_true_iff,List.all_eq_true]
  constructor
  · rintro ⟨h1,h2⟩
    refine List.ext_getElem h1 fun i hi hj=>?_
    have z:=rowQ_iff.1 (h2 i (List.mem_range.2 hi))
    rw [List.getD_eq_getElem?_getD,List.getElem?_eq_getElem hi,List.getD_eq_getElem?_getD,List.getElem?_eq_getElem hj] at z
    exact z
  · rintro rfl
    exact ⟨rfl,fun i _=>rowQ_iff.2 rfl⟩
end
end Go.Proofs.YtcanemamnmmbcaaGreatDoor
