/- Parts of the proof. -/
import Derived.Laws.StructEq
import Derived.Shelf.Abstract
import Derived.Deep.QuietTactic
import Derived.BigQuiet
import Derived.Lib.AppendZerosOnto
import Derived.Lib.AppendStr
import Derived.Laws.IdiomStrings
import Derived.Lib.BufferRead
import Derived.Test.YtjgajoljgepioaaGreatQac
namespace Go.Proofs.YtjgajoljgepioaaGreat
open Go.RowKit
set_option linter.unusedSimpArgs false
set_option linter.unusedVariables false
set_option linter.unusedSectionVars false
set_option maxRecDepth 100000
set_option maxHeartbeats 8000000
section
open Go.RowKit Go.Shelf
attribute [local go_sem] Oper.semAt_some
theorem TK:(Tryz.prog.info? 104).map (·.size)=some 4:=κ
def Lk (l:List PartT):Int:=match l.getLast? with | none=>0 | some p=>wrap64 (p.a+p.s)
theorem PN (l:List PartT) (p:PartT):Lk (l++[p])=wrap64 (p.a+p.s):=by unfold Lk;simp
theorem RQ:Lk AK=23168:=by decide +kernel
def SN (B:Nat) (mk:PartT→Nat→Act) (x:PartT) (a':Act) (W:World):Prop:=∃ Bx,B≤Bx∧Blk W Bx 104 (CC x)∧a'=mk x Bx
theorem KY {B:Nat} {mk:PartT→Nat→Act}:∀ (x:PartT) (a':Act) (X:World) (l:Nat) (o:Loop) (o':Obj),SN B mk x a' X→X.heap[l]? = some (.loop o)→SN B mk x a' (X.putObj l o'):=by
  rintro x a' X l o o' ⟨Bx,hB,hb,rfl⟩ hl
  refine ⟨Bx,hB,?_,rfl⟩
  have hne:Bx≠l:=by
    rintro rfl
    rw [show X.heap[Bx]? = _ from hb] at hl
    cases hl
  exact (World.putObj_heap_other hne).trans hb
theorem SE (w:World):Calls Tryz.prog 29 #[] w fun e w'=>e=.returned (ν 23168)∧Below w.heap.size w w':=by
  have hd:Fence.wide.depth=none:=rfl
  refine (callsIn_wide (n:=5)).1 ?_
  refine callsIn_of_wp_marks Tryz.func29 rfl trivial ?_ rfl
  simp only [Tryz.ntmps29,List.size_toArray,List.length_cons,List.length_nil,Nat.reduceAdd,Nat.reduceSub,Array.replicate_succ,Array.replicate_zero,List.push_toArray,List.append_toArray,List.nil_append,List.cons_append]
  gi_wp2
  have g0:Blk (w.alloc (.cells #[ν 0] 3)) w.heap.size 3 [ν (Lk [])]:=heap_alloc_new w _
  have b0:Below w.heap.size w (w.alloc (.cells #[ν 0] 3)):=(Below.refl _ w).alloc (Nat.le_refl _) _
  have hsz:(w.alloc (.cells #[ν 0] 3)).heap.size=w.heap.size+1:=by simp
  refine Eu rfl ω (gf:=48) (lb:=#[]) rfl trivial (enters_of Tryz.func48 κ rfl)
    (Kb Fence.wide rfl trivial trivial trivial rfl (5-1) w) b0 (fun _=>rfl)
    (fun pre W=>Blk W w.heap.size 3 [ν (Lk pre)]∧Below w.heap.size w W) (fun _ _ _=>False)
    ((StabC.blk (by rw [hsz];omega) (fun pre=>[ν (Lk pre)])).and (StabC.below (by rw [hsz];omega))) (fun _ _ _ _ h _=>h) ⟨g0,b0⟩
    (SN (w.heap.size+1) (fun x Bx=>{ tmps:=#[ν 0,π w.heap.size,π Bx,JA x,undef,undef,undef,undef,undef,undef],defers:=[] })) KY ?assign ?body ?done ?stop
  case assign=>
    rintro l pre ⟨k,n,a,s⟩ W K ⟨hg,hb⟩ hlt hK
    simp only [JA,CC]
    gi_wp2
    exact hK _ _ ((KeepUp.refl _ W).alloc _) ⟨hg.mono ((Below.refl _ W).alloc (Nat.le_refl _) _),hb.alloc hb.size _⟩ ⟨W.heap.size,by rw [hsz] at hlt;exact hlt,heap_alloc_new W _,rfl⟩
  case body=>
    rintro l pre x a' W ⟨hg,hb⟩ ⟨Bx,hBx,hx,rfl⟩ hlt _ _
    have z2:W.cell? ⟨Bx,2,none⟩=some (ν x.a):=hx.cell (i:=2) (by simp [CC])
    have z3:W.cell? ⟨Bx,3,none⟩=some (ν x.s):=hx.cell (i:=3) (by simp [CC])
    have c0:W.cell? ⟨w.heap.size,0,none⟩=some (ν (Lk pre)):=hg.cell (i:=0) (by simp)
    have fz:W.frozen? ⟨w.heap.size,0,none⟩=false:=hg.frozen 0
    have HG:=hid hg;have HB:=hid hb
    clear hg hb hx
    gi_wp2
    refine ⟨(KeepUp.refl _ W).setCell (p:=⟨w.heap.size,0,none⟩) (by rw [hsz];exact Nat.lt_succ_self _) _,?_,HB.out.setCell (p:=⟨w.heap.size,0,none⟩) (Nat.le_refl _) _⟩
    rw [PN]
    exact HG.out.set 0 _
  case done=>
    rintro D xs W hD rfl ⟨hg,hb⟩ hk
    rw [RQ] at hg
    have c0:W.cell? ⟨w.heap.size,0,none⟩=some (ν 23168):=hg.cell (i:=0) (by simp)
    have HB:=hid hb
    clear hg hb
    gi_wp2
    refine ⟨by simp,.inl ⟨_,_,rfl,run_takeDeferred hk,?_⟩⟩
    exact ⟨_,results_tmp rfl _ _ _,rfl,BY HB.out _ (by rw [hsz] at hD;omega)⟩
  case stop=>
    rintro D c pre W _ _ h _
    exact h.elim
end
section
def inF (p:PartT) (at_ n:Int):Bool:=decide (0≤n∧n≤p.s∧p.a≤at_∧at_-p.a≤p.s-n)
def wfI (n:Int):Prop:=-9223372036854775808≤n∧n≤9223372036854775807
theorem Qh (k m a s at_ n:Int) (w:World) (ha:wfI a) (hs:wfI s) (hat:wfI at_) (hn:wfI n) :
    Calls Tryz.prog 101 #[.agg #[ν k,ν m,ν a,ν s],ν at_,ν n] w fun e w'=>e=.returned (.bool (inF ⟨k,m,a,s⟩ at_ n))∧Below w.heap.size w w':=by
  unfold wfI at *
  have hB:Below w.heap.size w (w.alloc (.cells #[ν k,ν m,ν a,ν s] 104)):=(Below.refl w.heap.size w).alloc (Nat.le_refl _) _
  have HB:=hid hB
  clear hB
  by_cases h1:n<0
  · have e:inF ⟨k,m,a,s⟩ at_ n=false:=decide_eq_false ω
    rw [e]
    have d1:decide (n<0)=true:=decide_eq_true h1
    clear e h1
    go_enter Tryz.func101,Tryz.ntmps101
    go_wp2
    go_ret
    exact ⟨rfl,HB.out⟩
  have d1:decide (n<0)=false:=decide_eq_false h1
  by_cases h2:s<n
  · have e:inF ⟨k,m,a,s⟩ at_ n=false:=decide_eq_false (by show ¬ (0≤n∧n≤s∧a≤at_∧at_-a≤s-n);omega)
    rw [e]
    have d2:decide (s<n)=true:=decide_eq_true h2
    clear e h2 h1
    go_enter Tryz.func101,Tryz.ntmps101
    go_wp2
    go_ret
    exact ⟨rfl,HB.out⟩
  have d2:decide (s<n)=false:=decide_eq_false h2
  by_cases h3:at_<a
  · have e:inF ⟨k,m,a,s⟩ at_ n=false:=decide_eq_false (by show ¬ (0≤n∧n≤s∧a≤at_∧at_-a≤s-n);omega)
    rw [e]
    have d3:decide (at_<a)=true:=decide_eq_true h3
    clear e h3 h2 h1
    go_enter Tryz.func101,Tryz.ntmps101
    go_wp2
    go_ret
    exact ⟨rfl,HB.out⟩
  have d3:decide (at_<a)=false:=decide_eq_false h3
  have e:inF ⟨k,m,a,s⟩ at_ n=decide (at_-a≤s-n):=by
    unfold inF
    by_cases h:at_-a≤s-n
    · rw [decide_eq_true h];exact decide_eq_true (by show 0≤n∧n≤s∧a≤at_∧at_-a≤s-n;omega)
    · rw [decide_eq_false h];exact decide_eq_false (fun q=>h q.2.2.2)
  rw [e]
  clear e
  go_enter Tryz.func101,Tryz.ntmps101
  go_wp2
  go_ret
  refine ⟨Bd ?_,HB.out⟩
  have ew:IntKind.u64.wrap (IntKind.u64.wrap at_-IntKind.u64.wrap a)=at_-a:=by
    simp only [IntKind.wrap_u64];omega
  rw [ew]
end
section
open Go.RowKit Go.Shelf
attribute [local go_sem] Oper.semAt_some
theorem UV (x0 x1 x2 x3 y0 y1 y2 y3:Int) (w:World):(Op.equalIn 10000 104 (.agg #[ν x0,ν x1,ν x2,ν x3]) (.agg #[ν y0,ν y1,ν y2,ν y3])).run Tryz.prog w=.ok (decide ([x0,x1,x2,x3]=[y0,y1,y2,y3])) w:=by
  have u3:=υ3
  have a3:=Tryz.isAgg3
  have z3:=Tryz.sizeOf3
  have hS:Tryz.prog.underlying 104=some (.struct (Tryz.prog.fieldsOf 104)):=κ
  have hp:Tryz.prog.stoodInHeld 104=false:=κ
  rw [show (10000:Nat)=9999+1 from rfl,run_equalIn_agg w 9999 104 _ _ hS hp]
  simp only [Program.fieldsOf,υ104]
  go_simp
  by_cases h0:x0=y0
  case neg=>simp [h0]
  by_cases h1:x1=y1
  case neg=>simp [h0,h1]
  by_cases h2:x2=y2
  case neg=>simp [h0,h1,h2]
  by_cases h3:x3=y3
  case neg=>simp [h0,h1,h2,h3]
  simp [h0,h1,h2,h3]
theorem VB {w:World} {g:Nat} {e:TypeId} {L:List Value} (h:Blk w g e L) (hl:L.length=4) (v0 v1 v2 v3:Value) :
    Blk ((((w.setCell ⟨g,0,none⟩ v0).setCell ⟨g,1,none⟩ v1).setCell ⟨g,2,none⟩ v2).setCell ⟨g,3,none⟩ v3) g e [v0,v1,v2,v3]:=by
  match L,hl with
  | [a,b,c,d],_=>exact (((h.set 0 v0).set 1 v1).set 2 v2).set 3 v3
theorem UL {w0 w:World} {B g:Nat} (h:Below B w0 w) (hg:B≤g) (v0 v1 v2 v3:Value):Below B w0 ((((w.setCell ⟨g,0,none⟩ v0).setCell ⟨g,1,none⟩ v1).setCell ⟨g,2,none⟩ v2).setCell ⟨g,3,none⟩ v3):=
  (((h.setCell hg v0).setCell hg v1).setCell hg v2).setCell hg v3
theorem Vs {w:World} {g k:Nat} {e:TypeId} {L:List Value} (h:Blk w g e L) (hne:g≠k) (v0 v1 v2 v3:Value):Blk ((((w.setCell ⟨k,0,none⟩ v0).setCell ⟨k,1,none⟩ v1).setCell ⟨k,2,none⟩ v2).setCell ⟨k,3,none⟩ v3) g e L:=
  (((h.setOtherS hne 0 v0).setOtherS hne 1 v1).setOtherS hne 2 v2).setOtherS hne 3 v3
theorem VR {W W':World} {B g:Nat} (h:KeepUp B W W') (hg:g<B) (v0 v1 v2 v3:Value):KeepUp B W ((((W'.setCell ⟨g,0,none⟩ v0).setCell ⟨g,1,none⟩ v1).setCell ⟨g,2,none⟩ v2).setCell ⟨g,3,none⟩ v3):=
  (((h.setCell (p:=⟨g,0,none⟩) hg v0).setCell (p:=⟨g,1,none⟩) hg v1).setCell (p:=⟨g,2,none⟩) hg v2).setCell (p:=⟨g,3,none⟩) hg v3
theorem VQ {w:World} {g g' D:Nat} (h:D≠g) (h':D≠g') (v0 v1 v2 v3 v4:Value):(((((w.setCell ⟨g,0,none⟩ v0).setCell ⟨g,1,none⟩ v1).setCell ⟨g,2,none⟩ v2).setCell ⟨g,3,none⟩ v3).setCell ⟨g',0,none⟩ v4).heap[D]? = w.heap[D]?:=by
  rw [Below.heap_setCell _ _ _ _ h',Below.heap_setCell _ _ _ _ h,Below.heap_setCell _ _ _ _ h,Below.heap_setCell _ _ _ _ h,Below.heap_setCell _ _ _ _ h]
theorem Hd {fn:Func} {c u:Tmp} (h:fn.results=#[.cell c 104,.cell u 4]) {tmps:Array Value} {w:World} {g g':Nat} {e e':TypeId} {L:List Value} {b:Bool} (hc:tmps.getD c undef=π g) (hu:tmps.getD u undef=π g') (hb:Blk w g e L) (hl:L.length=4) (hb':Blk w g' e' [.bool b]) :
    (results fn tmps).run Tryz.prog w=.ok (.tuple #[.agg L.toArray,.bool b]) w:=by
  have hv:=run_loadVar_mid (P:=Tryz.prog) w g 0 104 L _ hb.range υ104 rfl (by rw [TK,hl])
  have hc':tmps[c]?.getD undef=π g:=by simpa using hc
  have hu':tmps[u]?.getD undef=π g':=by simpa using hu
  have z:w.cell? ⟨g',0,none⟩=some (.bool b):=hb'.cell (i:=0) (by simp)
  have ub:=υ4
  have ib:(Tryz.prog.info? 4).map (·.size)=some 1:=κ
  have hv2:(loadVar 4 ⟨g',0,none⟩).run Tryz.prog w=.ok (.bool b) w:=by go_simp
  simp [results,h,hc',hu',asAddr,hv,hv2]
theorem Lq {α:Type} {p:α→Bool} {l q:List α} {x:α} (h:q++[x] <+: l) (hq:∀ y∈q,p y=false) (hx:p x=true):l.find? p=some x:=by
  obtain ⟨r,rfl⟩:=h
  rw [List.append_assoc,List.find?_append]
  have:q.find? p=none:=List.find?_eq_none.2 (fun y hy=>by rw [hq y hy];simp)
  rw [this]
  simp [hx]
def WO (kd nm:Int) (x:PartT):Bool:=decide (x.k=kd∧x.n=nm)
def Lp (kd nm:Int):Option PartT:=AK.find? (WO kd nm)
def ofP (at_:Int):Option PartT:=AK.find? (fun x=>inF x at_ 1)
def OM:PartT:=⟨0,0,0,0⟩
def Rz (o:Option PartT):Value:=.tuple #[JA (o.getD OM),.bool o.isSome]
theorem Ia:∀ x∈AK,0≤x.a∧x.a≤23104∧0≤x.s∧x.s≤4096:=by decide +kernel
theorem Ty (kd nm:Int) (w:World):Calls Tryz.prog 100 #[ν kd,ν nm] w fun e w'=>e=.returned (Rz (Lp kd nm))∧Below w.heap.size w w':=by
  have hd:Fence.wide.depth=none:=rfl
  obtain ⟨w4,hw4⟩:∃ w4,w4=((((w.alloc (.cells #[ν kd] 3)).alloc (.cells #[ν nm] 3)).alloc (.cells #[ν 0,ν 0,ν 0,ν 0] 104)).alloc (.cells #[.bool false] 4)):=⟨_,rfl⟩
  have hsz:w4.heap.size=w.heap.size+4:=by rw [hw4];simp
  have b0:Below w.heap.size w w4:=by rw [hw4];exact (((((Below.refl _ w).alloc (Nat.le_refl _) _).alloc (by simp;try omega) _).alloc (by simp;try omega) _).alloc (by simp;try omega) _)
  have k0:Blk w4 (w.heap.size) 3 [ν kd]:=by
    rw [hw4]
    have q:Blk (w.alloc (.cells #[ν kd] 3)) (w.heap.size) 3 [ν kd]:=by
      have q:=heap_alloc_new w (.cells #[ν kd] 3)
      exact q
    exact (((q.mono ((Below.refl _ _).alloc (Nat.le_refl _) _)).mono ((Below.refl _ _).alloc (Nat.le_refl _) _)).mono ((Below.refl _ _).alloc (Nat.le_refl _) _))
  have k1:Blk w4 (w.heap.size+1) 3 [ν nm]:=by
    rw [hw4]
    have q:Blk ((w.alloc (.cells #[ν kd] 3)).alloc (.cells #[ν nm] 3)) (w.heap.size+1) 3 [ν nm]:=by
      have q:=heap_alloc_new (w.alloc (.cells #[ν kd] 3)) (.cells #[ν nm] 3)
      rw [show ((w.alloc (.cells #[ν kd] 3))).heap.size=w.heap.size+1 from by simp] at q;exact q
    exact ((q.mono ((Below.refl _ _).alloc (Nat.le_refl _) _)).mono ((Below.refl _ _).alloc (Nat.le_refl _) _))
  have k2:Blk w4 (w.heap.size+1+1) 104 [ν 0,ν 0,ν 0,ν 0]:=by
    rw [hw4]
    have q:Blk (((w.alloc (.cells #[ν kd] 3)).alloc (.cells #[ν nm] 3)).alloc (.cells #[ν 0,ν 0,ν 0,ν 0] 104)) (w.heap.size+1+1) 104 [ν 0,ν 0,ν 0,ν 0]:=by
      have q:=heap_alloc_new ((w.alloc (.cells #[ν kd] 3)).alloc (.cells #[ν nm] 3)) (.cells #[ν 0,ν 0,ν 0,ν 0] 104)
      rw [show (((w.alloc (.cells #[ν kd] 3)).alloc (.cells #[ν nm] 3))).heap.size=w.heap.size+1+1 from by simp] at q;exact q
    exact (q.mono ((Below.refl _ _).alloc (Nat.le_refl _) _))
  have k3:Blk w4 (w.heap.size+1+1+1) 4 [.bool false]:=by
    rw [hw4]
    have q:Blk ((((w.alloc (.cells #[ν kd] 3)).alloc (.cells #[ν nm] 3)).alloc (.cells #[ν 0,ν 0,ν 0,ν 0] 104)).alloc (.cells #[.bool false] 4)) (w.heap.size+1+1+1) 4 [.bool false]:=by
      have q:=heap_alloc_new (((w.alloc (.cells #[ν kd] 3)).alloc (.cells #[ν nm] 3)).alloc (.cells #[ν 0,ν 0,ν 0,ν 0] 104)) (.cells #[.bool false] 4)
      rw [show ((((w.alloc (.cells #[ν kd] 3)).alloc (.cells #[ν nm] 3)).alloc (.cells #[ν 0,ν 0,ν 0,ν 0] 104))).heap.size=w.heap.size+1+1+1 from by simp] at q;exact q
    exact q
  obtain ⟨hit,hhit⟩:∃ hit:PartT→Bool,hit=WO kd nm:=⟨_,rfl⟩
  have HH:=hid hhit
  clear hhit
  refine (callsIn_wide (n:=5)).1 ?_
  refine callsIn_of_wp_marks Tryz.func100 rfl trivial ?_ rfl
  simp only [Tryz.ntmps100,List.size_toArray,List.length_cons,List.length_nil,Nat.reduceAdd,Nat.reduceSub,Array.replicate_succ,Array.replicate_zero,List.push_toArray,List.append_toArray,List.nil_append,List.cons_append]
  gi_wp2
  rw [← hw4]
  clear hw4
  have hI:StabC w4.heap.size (fun (pre:List PartT) W=>(Blk W (w.heap.size) 3 [ν kd]∧Blk W (w.heap.size+1) 3 [ν nm]∧Blk W (w.heap.size+1+1) 104 [ν 0,ν 0,ν 0,ν 0]∧Blk W (w.heap.size+1+1+1) 4 [.bool false])∧(∀ y∈pre,hit y=false)∧Below w.heap.size w W):=by
    rintro pre X Y ⟨⟨hb0,hb1,hhp,hho⟩,h1,h2⟩ b
    exact ⟨⟨(b.block _ (by rw [hsz];omega)).trans hb0,(b.block _ (by rw [hsz];omega)).trans hb1,(b.block _ (by rw [hsz];omega)).trans hhp,(b.block _ (by rw [hsz];omega)).trans hho⟩,h1,h2.trans (b.mono (by rw [hsz];omega))⟩
  have hIx:∀ c,StabC w4.heap.size (fun (pre:List PartT) W=>c=Code.ret∧∃ q x,pre=q++[x]∧(∀ y∈q,hit y=false)∧hit x=true∧Blk W (w.heap.size+1+1) 104 (CC x)∧Blk W (w.heap.size+1+1+1) 4 [.bool true]∧Below w.heap.size w W):=by
    rintro c pre X Y ⟨h0,q,x,h1,h2,h3,h4,h5,h6⟩ b
    exact ⟨h0,q,x,h1,h2,h3,(b.block _ (by rw [hsz];omega)).trans h4,(b.block _ (by rw [hsz];omega)).trans h5,h6.trans (b.mono (by rw [hsz];omega))⟩
  refine Eu rfl ω (gf:=48) (lb:=#[]) rfl trivial (enters_of Tryz.func48 κ rfl)
    (Kb Fence.wide rfl trivial trivial trivial rfl (5-1) w) b0 (fun _=>rfl)
    _ _ hI hIx ⟨⟨k0,k1,k2,k3⟩,fun y hy=>absurd hy (by simp),b0⟩
    (SN (w.heap.size+4) (fun x Bx=>{ tmps:=#[ν kd,ν nm,π w.heap.size,π (w.heap.size+1),π (w.heap.size+1+1),π (w.heap.size+1+1+1),π Bx,JA x,undef,undef,undef,undef,undef,undef,undef,undef,undef,undef,undef],defers:=[] })) KY ?assign ?body ?done ?stop
  case assign=>
    rintro l pre ⟨k,n,a,s⟩ W K hi hlt hK
    have hi':=hI (s:=pre) _ _ hi ((Below.refl w4.heap.size W).alloc hlt (.cells #[ν k,ν n,ν a,ν s] 104))
    have HI:=hid hi'
    clear hi hi'
    simp only [JA,CC]
    gi_wp2
    exact hK _ _ ((KeepUp.refl _ W).alloc _) HI.out ⟨W.heap.size,by rw [hsz] at hlt;exact hlt,heap_alloc_new W _,rfl⟩
  case body=>
    rintro l pre x a' W ⟨⟨hb0,hb1,hhp,hho⟩,hno,hb⟩ ⟨Bx,hBx,hx,rfl⟩ hlt _ hsp
    have hxm:x∈AK:=hsp.subset (by simp)
    have hwf:=Ia x hxm
    clear hxm hsp
    have x0:W.cell? ⟨Bx,0,none⟩=some (ν x.k):=hx.cell (i:=0) (by simp [CC])
    have x1:W.cell? ⟨Bx,1,none⟩=some (ν x.n):=hx.cell (i:=1) (by simp [CC])
    have x2:W.cell? ⟨Bx,2,none⟩=some (ν x.a):=hx.cell (i:=2) (by simp [CC])
    have x3:W.cell? ⟨Bx,3,none⟩=some (ν x.s):=hx.cell (i:=3) (by simp [CC])
    have k0:W.cell? ⟨w.heap.size,0,none⟩=some (ν kd):=hb0.cell (i:=0) (by simp)
    have k1:W.cell? ⟨w.heap.size+1,0,none⟩=some (ν nm):=hb1.cell (i:=0) (by simp)
    have HX0:=hid hb0;have HX1:=hid hb1
    have p0:W.cell? ⟨w.heap.size+1+1,0,none⟩=some (ν 0):=hhp.cell (i:=0) (by simp)
    have p1:W.cell? ⟨w.heap.size+1+1,1,none⟩=some (ν 0):=hhp.cell (i:=1) (by simp)
    have p2:W.cell? ⟨w.heap.size+1+1,2,none⟩=some (ν 0):=hhp.cell (i:=2) (by simp)
    have p3:W.cell? ⟨w.heap.size+1+1,3,none⟩=some (ν 0):=hhp.cell (i:=3) (by simp)
    have pf0:W.frozen? ⟨w.heap.size+1+1,0,none⟩=false:=hhp.frozen 0
    have pf1:W.frozen? ⟨w.heap.size+1+1,1,none⟩=false:=hhp.frozen 1
    have pf2:W.frozen? ⟨w.heap.size+1+1,2,none⟩=false:=hhp.frozen 2
    have pf3:W.frozen? ⟨w.heap.size+1+1,3,none⟩=false:=hhp.frozen 3
    have o0:W.cell? ⟨w.heap.size+1+1+1,0,none⟩=some (.bool false):=hho.cell (i:=0) (by simp)
    have of0:W.frozen? ⟨w.heap.size+1+1+1,0,none⟩=false:=hho.frozen 0
    have HH0:=hid hhp;have HH1:=hid hho;have HNO:=hid hno;have HB:=hid hb
    clear hb0 hb1 hhp hho hno hb hx
    have E:=UV x.k x.n x.a x.s kd nm x.a x.s
    by_cases hq:x.k=kd∧x.n=nm
    · have hh:hit x=true:=by rw [HH.out];exact decide_eq_true hq
      rw [decide_eq_true (by rw [hq.1,hq.2]:[x.k,x.n,x.a,x.s]=[kd,nm,x.a,x.s])] at E
      clear hq
      gi_wp2
      refine ⟨(VR (KeepUp.refl _ W) (by rw [hsz];omega) _ _ _ _).setCell (p:=⟨w.heap.size+1+1+1,0,none⟩) (by rw [hsz];exact (ω:w.heap.size+1+1+1<w.heap.size+4)) _,rfl,pre,x,rfl,HNO.out,hh,?_,?_,?_⟩
      · exact (VB HH0.out rfl _ _ _ _).setOtherS ω 0 _
      · exact (Vs HH1.out ω _ _ _ _).set 0 _
      · exact (UL HB.out ω _ _ _ _).setCell (p:=⟨w.heap.size+1+1+1,0,none⟩) (ω:w.heap.size≤w.heap.size+1+1+1) _
    · have hh:hit x=false:=by rw [HH.out];exact decide_eq_false hq
      rw [decide_eq_false (fun h=>hq (by simp only [List.cons.injEq,and_true] at h;exact h):¬ [x.k,x.n,x.a,x.s]=[kd,nm,x.a,x.s])] at E
      clear hq
      gi_wp2
      refine ⟨(KeepUp.refl _ W),⟨HX0.out,HX1.out,HH0.out,HH1.out⟩,fun y hy=>?_,HB.out⟩
      rcases List.mem_append.1 hy with h | h
      · exact HNO.out y h
      · rw [List.mem_singleton.1 h];exact hh
  case done=>
    rintro D xs W hD rfl ⟨⟨hb0,hb1,hhp,hho⟩,hno,hb⟩ hk
    have hans:Rz (Lp kd nm)=.tuple #[.agg #[ν 0,ν 0,ν 0,ν 0],.bool false]:=by
      have:Lp kd nm=none:=List.find?_eq_none.2 (fun y hy=>by have:=hno y hy;rw [HH.out] at this;simpa using this)
      rw [this];rfl
    have HANS:=hid hans
    clear hans
    have p0:W.cell? ⟨w.heap.size+1+1,0,none⟩=some (ν 0):=hhp.cell (i:=0) (by simp)
    have pf0:W.frozen? ⟨w.heap.size+1+1,0,none⟩=false:=hhp.frozen 0
    have p1:W.cell? ⟨w.heap.size+1+1,1,none⟩=some (ν 0):=hhp.cell (i:=1) (by simp)
    have pf1:W.frozen? ⟨w.heap.size+1+1,1,none⟩=false:=hhp.frozen 1
    have p2:W.cell? ⟨w.heap.size+1+1,2,none⟩=some (ν 0):=hhp.cell (i:=2) (by simp)
    have pf2:W.frozen? ⟨w.heap.size+1+1,2,none⟩=false:=hhp.frozen 2
    have p3:W.cell? ⟨w.heap.size+1+1,3,none⟩=some (ν 0):=hhp.cell (i:=3) (by simp)
    have pf3:W.frozen? ⟨w.heap.size+1+1,3,none⟩=false:=hhp.frozen 3
    have o0:W.cell? ⟨w.heap.size+1+1+1,0,none⟩=some (.bool false):=hho.cell (i:=0) (by simp)
    have of0:W.frozen? ⟨w.heap.size+1+1+1,0,none⟩=false:=hho.frozen 0
    have HH0:=hid hhp;have HH1:=hid hho;have HB:=hid hb;have HK:=hid hk
    clear hb0 hb1 hhp hho hno hb hk
    gi_wp2
    refine ⟨by simp,.inl ⟨_,_,rfl,run_takeDeferred (ds:=[]) (by rw [VQ (by rw [hsz] at hD;omega) (by rw [hsz] at hD;omega)];exact HK.out),?_⟩⟩
    refine ⟨_,Hd rfl rfl rfl ((World.putObj_heap_other (by rw [hsz] at hD;omega)).trans ((VB HH0.out rfl _ _ _ _).setOtherS ω 0 _)) rfl ((World.putObj_heap_other (by rw [hsz] at hD;omega)).trans ((Vs HH1.out ω _ _ _ _).set 0 _)),by rw [HANS.out],BY ((UL HB.out ω _ _ _ _).setCell (p:=⟨w.heap.size+1+1+1,0,none⟩) (ω:w.heap.size≤w.heap.size+1+1+1) _) _ (by rw [hsz] at hD;omega)⟩
  case stop=>
    rintro D c pre W hD hsp ⟨rfl,q,x,rfl,hno,hx,hp,ho,hb⟩ hk
    have hans:Rz (Lp kd nm)=.tuple #[.agg (CC x).toArray,.bool true]:=by
      have:Lp kd nm=some x:=Lq hsp (fun y hy=>by have:=hno y hy;rw [HH.out] at this;exact this) (by rw [HH.out] at hx;exact hx)
      rw [this];rfl
    have HANS:=hid hans
    clear hans
    gi_wp2
    refine ⟨by simp,.inl ⟨_,_,rfl,run_takeDeferred hk,?_⟩⟩
    exact ⟨_,Hd rfl rfl rfl ((World.putObj_heap_other (by rw [hsz] at hD;omega)).trans hp) rfl ((World.putObj_heap_other (by rw [hsz] at hD;omega)).trans ho),by rw [HANS.out],BY hb _ (by rw [hsz] at hD;omega)⟩
theorem TV (at_:Int) (w:World) (hat:wfI at_):Calls Tryz.prog 103 #[ν at_] w fun e w'=>e=.returned (Rz (ofP at_))∧Below w.heap.size w w':=by
  have hd:Fence.wide.depth=none:=rfl
  obtain ⟨w4,hw4⟩:∃ w4,w4=(((w.alloc (.cells #[ν at_] 3)).alloc (.cells #[ν 0,ν 0,ν 0,ν 0] 104)).alloc (.cells #[.bool false] 4)):=⟨_,rfl⟩
  have hsz:w4.heap.size=w.heap.size+3:=by rw [hw4];simp
  have b0:Below w.heap.size w w4:=by rw [hw4];exact ((((Below.refl _ w).alloc (Nat.le_refl _) _).alloc (by simp;try omega) _).alloc (by simp;try omega) _)
  have k0:Blk w4 (w.heap.size) 3 [ν at_]:=by
    rw [hw4]
    have q:Blk (w.alloc (.cells #[ν at_] 3)) (w.heap.size) 3 [ν at_]:=by
      have q:=heap_alloc_new w (.cells #[ν at_] 3)
      exact q
    exact ((q.mono ((Below.refl _ _).alloc (Nat.le_refl _) _)).mono ((Below.refl _ _).alloc (Nat.le_refl _) _))
  have k1:Blk w4 (w.heap.size+1) 104 [ν 0,ν 0,ν 0,ν 0]:=by
    rw [hw4]
    have q:Blk ((w.alloc (.cells #[ν at_] 3)).alloc (.cells #[ν 0,ν 0,ν 0,ν 0] 104)) (w.heap.size+1) 104 [ν 0,ν 0,ν 0,ν 0]:=by
      have q:=heap_alloc_new (w.alloc (.cells #[ν at_] 3)) (.cells #[ν 0,ν 0,ν 0,ν 0] 104)
      rw [show ((w.alloc (.cells #[ν at_] 3))).heap.size=w.heap.size+1 from by simp] at q;exact q
    exact (q.mono ((Below.refl _ _).alloc (Nat.le_refl _) _))
  have k2:Blk w4 (w.heap.size+1+1) 4 [.bool false]:=by
    rw [hw4]
    have q:Blk (((w.alloc (.cells #[ν at_] 3)).alloc (.cells #[ν 0,ν 0,ν 0,ν 0] 104)).alloc (.cells #[.bool false] 4)) (w.heap.size+1+1) 4 [.bool false]:=by
      have q:=heap_alloc_new ((w.alloc (.cells #[ν at_] 3)).alloc (.cells #[ν 0,ν 0,ν 0,ν 0] 104)) (.cells #[.bool false] 4)
      rw [show (((w.alloc (.cells #[ν at_] 3)).alloc (.cells #[ν 0,ν 0,ν 0,ν 0] 104))).heap.size=w.heap.size+1+1 from by simp] at q;exact q
    exact q
  obtain ⟨hit,hhit⟩:∃ hit:PartT→Bool,hit=(fun x=>inF x at_ 1):=⟨_,rfl⟩
  have HH:=hid hhit
  clear hhit
  refine (callsIn_wide (n:=5)).1 ?_
  refine callsIn_of_wp_marks Tryz.func103 rfl trivial ?_ rfl
  simp only [Tryz.ntmps103,List.size_toArray,List.length_cons,List.length_nil,Nat.reduceAdd,Nat.reduceSub,Array.replicate_succ,Array.replicate_zero,List.push_toArray,List.append_toArray,List.nil_append,List.cons_append]
  gi_wp2
  rw [← hw4]
  clear hw4
  have hI:StabC w4.heap.size (fun (pre:List PartT) W=>(Blk W (w.heap.size) 3 [ν at_]∧Blk W (w.heap.size+1) 104 [ν 0,ν 0,ν 0,ν 0]∧Blk W (w.heap.size+1+1) 4 [.bool false])∧(∀ y∈pre,hit y=false)∧Below w.heap.size w W):=by
    rintro pre X Y ⟨⟨hb0,hhp,hho⟩,h1,h2⟩ b
    exact ⟨⟨(b.block _ (by rw [hsz];omega)).trans hb0,(b.block _ (by rw [hsz];omega)).trans hhp,(b.block _ (by rw [hsz];omega)).trans hho⟩,h1,h2.trans (b.mono (by rw [hsz];omega))⟩
  have hIx:∀ c,StabC w4.heap.size (fun (pre:List PartT) W=>c=Code.ret∧∃ q x,pre=q++[x]∧(∀ y∈q,hit y=false)∧hit x=true∧Blk W (w.heap.size+1) 104 (CC x)∧Blk W (w.heap.size+1+1) 4 [.bool true]∧Below w.heap.size w W):=by
    rintro c pre X Y ⟨h0,q,x,h1,h2,h3,h4,h5,h6⟩ b
    exact ⟨h0,q,x,h1,h2,h3,(b.block _ (by rw [hsz];omega)).trans h4,(b.block _ (by rw [hsz];omega)).trans h5,h6.trans (b.mono (by rw [hsz];omega))⟩
  refine Eu rfl ω (gf:=48) (lb:=#[]) rfl trivial (enters_of Tryz.func48 κ rfl)
    (Kb Fence.wide rfl trivial trivial trivial rfl (5-1) w) b0 (fun _=>rfl)
    _ _ hI hIx ⟨⟨k0,k1,k2⟩,fun y hy=>absurd hy (by simp),b0⟩
    (SN (w.heap.size+3) (fun x Bx=>{ tmps:=#[ν at_,π w.heap.size,π (w.heap.size+1),π (w.heap.size+1+1),π Bx,JA x,undef,undef,undef,undef,undef],defers:=[] })) KY ?assign ?body ?done ?stop
  case assign=>
    rintro l pre ⟨k,n,a,s⟩ W K hi hlt hK
    have hi':=hI (s:=pre) _ _ hi ((Below.refl w4.heap.size W).alloc hlt (.cells #[ν k,ν n,ν a,ν s] 104))
    have HI:=hid hi'
    clear hi hi'
    simp only [JA,CC]
    gi_wp2
    exact hK _ _ ((KeepUp.refl _ W).alloc _) HI.out ⟨W.heap.size,by rw [hsz] at hlt;exact hlt,heap_alloc_new W _,rfl⟩
  case body=>
    rintro l pre x a' W ⟨⟨hb0,hhp,hho⟩,hno,hb⟩ ⟨Bx,hBx,hx,rfl⟩ hlt _ hsp
    have hxm:x∈AK:=hsp.subset (by simp)
    have hwf:=Ia x hxm
    clear hxm hsp
    have x0:W.cell? ⟨Bx,0,none⟩=some (ν x.k):=hx.cell (i:=0) (by simp [CC])
    have x1:W.cell? ⟨Bx,1,none⟩=some (ν x.n):=hx.cell (i:=1) (by simp [CC])
    have x2:W.cell? ⟨Bx,2,none⟩=some (ν x.a):=hx.cell (i:=2) (by simp [CC])
    have x3:W.cell? ⟨Bx,3,none⟩=some (ν x.s):=hx.cell (i:=3) (by simp [CC])
    have k0:W.cell? ⟨w.heap.size,0,none⟩=some (ν at_):=hb0.cell (i:=0) (by simp)
    have HX0:=hid hb0;have HXX:=hid hx
    have hin:Calls Tryz.prog 101 #[.agg #[ν x.k,ν x.n,ν x.a,ν x.s],ν at_,ν 1] W fun e w'=>e=.returned (.bool (inF x at_ 1))∧Below W.heap.size W w':=Qh x.k x.n x.a x.s at_ 1 W (by unfold wfI;omega) (by unfold wfI;omega) hat (by unfold wfI;omega)
    have HH0:=hid hhp;have HH1:=hid hho;have HNO:=hid hno;have HB:=hid hb
    clear hb0 hhp hho hno hb hx
    by_cases hq:inF x at_ 1=true
    · have hh:hit x=true:=by rw [HH.out];exact hq
      rw [hq] at hin
      have HIN:=hid hin
      clear hin
      clear hq
      gi_wp2_with ((try refine ⟨trivial,?_⟩);gi_at_call 101;refine (CallsIn.inRound l (callsIn_wide.2 HIN.out)).mono ?_;rintro e W1 ⟨rfl,b1⟩;have y0:W1.cell? ⟨Bx,0,none⟩=some (ν x.k):=(HXX.out.mono b1).cell (i:=0) (by simp [CC]);have y1:W1.cell? ⟨Bx,1,none⟩=some (ν x.n):=(HXX.out.mono b1).cell (i:=1) (by simp [CC]);have y2:W1.cell? ⟨Bx,2,none⟩=some (ν x.a):=(HXX.out.mono b1).cell (i:=2) (by simp [CC]);have y3:W1.cell? ⟨Bx,3,none⟩=some (ν x.s):=(HXX.out.mono b1).cell (i:=3) (by simp [CC]);have p0:W1.cell? ⟨w.heap.size+1,0,none⟩=some (ν 0):=(HH0.out.mono b1).cell (i:=0) (by simp);have pf0:W1.frozen? ⟨w.heap.size+1,0,none⟩=false:=(HH0.out.mono b1).frozen 0;have p1:W1.cell? ⟨w.heap.size+1,1,none⟩=some (ν 0):=(HH0.out.mono b1).cell (i:=1) (by simp);have pf1:W1.frozen? ⟨w.heap.size+1,1,none⟩=false:=(HH0.out.mono b1).frozen 1;have p2:W1.cell? ⟨w.heap.size+1,2,none⟩=some (ν 0):=(HH0.out.mono b1).cell (i:=2) (by simp);have pf2:W1.frozen? ⟨w.heap.size+1,2,none⟩=false:=(HH0.out.mono b1).frozen 2;have p3:W1.cell? ⟨w.heap.size+1,3,none⟩=some (ν 0):=(HH0.out.mono b1).cell (i:=3) (by simp);have pf3:W1.frozen? ⟨w.heap.size+1,3,none⟩=false:=(HH0.out.mono b1).frozen 3;have o0:W1.cell? ⟨w.heap.size+1+1,0,none⟩=some (.bool false):=(HH1.out.mono b1).cell (i:=0) (by simp);have of0:W1.frozen? ⟨w.heap.size+1+1,0,none⟩=false:=(HH1.out.mono b1).frozen 0;have B1:=hid b1;clear b1)
      refine ⟨(VR (KeepUp.of_below B1.out) (by rw [hsz];omega) _ _ _ _).setCell (p:=⟨w.heap.size+1+1,0,none⟩) (by rw [hsz];exact (ω:w.heap.size+1+1<w.heap.size+3)) _,rfl,pre,x,rfl,HNO.out,hh,?_,?_,?_⟩
      · exact (VB (HH0.out.mono B1.out) rfl _ _ _ _).setOtherS ω 0 _
      · exact (Vs (HH1.out.mono B1.out) ω _ _ _ _).set 0 _
      · exact (UL (DO HB.out B1.out HB.out.size) ω _ _ _ _).setCell (p:=⟨w.heap.size+1+1,0,none⟩) (ω:w.heap.size≤w.heap.size+1+1) _
    · have hh:hit x=false:=by rw [HH.out];simpa using hq
      rw [show inF x at_ 1=false by simpa using hq] at hin
      have HIN:=hid hin
      clear hin
      clear hq
      gi_wp2_with ((try refine ⟨trivial,?_⟩);gi_at_call 101;refine (CallsIn.inRound l (callsIn_wide.2 HIN.out)).mono ?_;rintro e W1 ⟨rfl,b1⟩;have B1:=hid b1;clear b1)
      refine ⟨(KeepUp.of_below B1.out),⟨HX0.out.mono B1.out,HH0.out.mono B1.out,HH1.out.mono B1.out⟩,fun y hy=>?_,(DO HB.out B1.out HB.out.size)⟩
      rcases List.mem_append.1 hy with h | h
      · exact HNO.out y h
      · rw [List.mem_singleton.1 h];exact hh
  case done=>
    rintro D xs W hD rfl ⟨⟨hb0,hhp,hho⟩,hno,hb⟩ hk
    have hans:Rz (ofP at_)=.tuple #[.agg #[ν 0,ν 0,ν 0,ν 0],.bool false]:=by
      have:ofP at_=none:=List.find?_eq_none.2 (fun y hy=>by have:=hno y hy;rw [HH.out] at this;simpa using this)
      rw [this];rfl
    have HANS:=hid hans
    clear hans
    have p0:W.cell? ⟨w.heap.size+1,0,none⟩=some (ν 0):=hhp.cell (i:=0) (by simp)
    have pf0:W.frozen? ⟨w.heap.size+1,0,none⟩=false:=hhp.frozen 0
    have p1:W.cell? ⟨w.heap.size+1,1,none⟩=some (ν 0):=hhp.cell (i:=1) (by simp)
    have pf1:W.frozen? ⟨w.heap.size+1,1,none⟩=false:=hhp.frozen 1
    have p2:W.cell? ⟨w.heap.size+1,2,none⟩=some (ν 0):=hhp.cell (i:=2) (by simp)
    have pf2:W.frozen? ⟨w.heap.size+1,2,none⟩=false:=hhp.frozen 2
    have p3:W.cell? ⟨w.heap.size+1,3,none⟩=some (ν 0):=hhp.cell (i:=3) (by simp)
    have pf3:W.frozen? ⟨w.heap.size+1,3,none⟩=false:=hhp.frozen 3
    have o0:W.cell? ⟨w.heap.size+1+1,0,none⟩=some (.bool false):=hho.cell (i:=0) (by simp)
    have of0:W.frozen? ⟨w.heap.size+1+1,0,none⟩=false:=hho.frozen 0
    have HH0:=hid hhp;have HH1:=hid hho;have HB:=hid hb;have HK:=hid hk
    clear hb0 hhp hho hno hb hk
    gi_wp2
    refine ⟨by simp,.inl ⟨_,_,rfl,run_takeDeferred (ds:=[]) (by rw [VQ (by rw [hsz] at hD;omega) (by rw [hsz] at hD;omega)];exact HK.out),?_⟩⟩
    refine ⟨_,Hd rfl rfl rfl ((World.putObj_heap_other (by rw [hsz] at hD;omega)).trans ((VB HH0.out rfl _ _ _ _).setOtherS ω 0 _)) rfl ((World.putObj_heap_other (by rw [hsz] at hD;omega)).trans ((Vs HH1.out ω _ _ _ _).set 0 _)),by rw [HANS.out],BY ((UL HB.out ω _ _ _ _).setCell (p:=⟨w.heap.size+1+1,0,none⟩) (ω:w.heap.size≤w.heap.size+1+1) _) _ (by rw [hsz] at hD;omega)⟩
  case stop=>
    rintro D c pre W hD hsp ⟨rfl,q,x,rfl,hno,hx,hp,ho,hb⟩ hk
    have hans:Rz (ofP at_)=.tuple #[.agg (CC x).toArray,.bool true]:=by
      have:ofP at_=some x:=Lq hsp (fun y hy=>by have:=hno y hy;rw [HH.out] at this;exact this) (by rw [HH.out] at hx;exact hx)
      rw [this];rfl
    have HANS:=hid hans
    clear hans
    gi_wp2
    refine ⟨by simp,.inl ⟨_,_,rfl,run_takeDeferred hk,?_⟩⟩
    exact ⟨_,Hd rfl rfl rfl ((World.putObj_heap_other (by rw [hsz] at hD;omega)).trans hp) rfl ((World.putObj_heap_other (by rw [hsz] at hD;omega)).trans ho),by rw [HANS.out],BY hb _ (by rw [hsz] at hD;omega)⟩
end
section
def JY (p:PartT):Prop:=(p.k=1∧p.n=0∧p.a=0∧p.s=64)∨(p.k=2∧1≤p.n∧p.n≤8∧p.a=64+(p.n-1)*64∧p.s=64)∨(p.k=3∧p.n=0∧p.a=576∧p.s=64)∨(p.k=4∧1≤p.n∧p.n≤32∧p.a=640+(p.n-1)*64∧p.s=64)∨(p.k=5∧p.n=0∧p.a=2688∧p.s=4096)∨(p.k=6∧1≤p.n∧p.n≤8∧p.a=6784+(p.n-1)*1024∧p.s=1024)∨(p.k=7∧1≤p.n∧p.n≤128∧p.a=14976+(p.n-1)*64∧p.s=64)
instance (p:PartT):Decidable (JY p):=by unfold JY;infer_instance
theorem Hz:∀ p∈AK,JY p:=by decide +kernel
theorem ON {p q:PartT} (h0:p.k=q.k) (h1:p.n=q.n) (h2:p.a=q.a) (h3:p.s=q.s):p=q:=by
  cases p;cases q;simp only at *;subst h0 h1 h2 h3;rfl
def SR (p q:PartT):Bool:=decide (p.a+p.s≤q.a)||decide (q.a+q.s≤p.a)||(decide (p.k=q.k)&&decide (p.n=q.n))
theorem Nr:(AK.all fun p=>AK.all fun q=>SR p q)=true:=by decide +kernel
theorem LC {p q:PartT} (hp:p∈AK) (hq:q∈AK) (hk:p.k=q.k) (hn:p.n=q.n):p=q:=by
  have h1:=Hz p hp
  have h2:=Hz q hq
  unfold JY at h1 h2
  rw [← hk,← hn] at h2
  refine ON hk hn ?_ ?_<;>omega
theorem Sv {p q:PartT} (hp:p∈AK) (hq:q∈AK) {at_:Int} (h1:inF p at_ 1=true) (h2:inF q at_ 1=true):p=q:=by
  have h:=List.all_eq_true.1 (List.all_eq_true.1 Nr p hp) q hq
  unfold inF at h1 h2
  have h1:=of_decide_eq_true h1
  have h2:=of_decide_eq_true h2
  unfold SR at h
  simp only [Bool.or_eq_true,Bool.and_eq_true,decide_eq_true_eq] at h
  rcases h with (h | h) | ⟨h,h'⟩
  · omega
  · omega
  · exact LC hp hq h h'
theorem EG {q:PartT} (hq:q∈AK) {at_:Int} (h:inF q at_ 1=true):ofP at_=some q:=by
  unfold ofP
  cases hf:AK.find? (fun x=>inF x at_ 1) with
  | none=>exact absurd h (by rw [List.find?_eq_none] at hf;exact hf q hq)
  | some x=>rw [Sv (List.mem_of_find?_eq_some hf) hq (List.find?_some (p:=fun x=>inF x at_ 1) hf) h]
theorem Ha {q:PartT} {at_:Int} (h:ofP at_=some q):q∈AK∧inF q at_ 1=true:=⟨List.mem_of_find?_eq_some h,List.find?_some (p:=fun x=>inF x at_ 1) h⟩
theorem KM {k T s:Int} {c:Nat} {n:Int} (h1:1≤n) (h2:n≤c):(⟨k,n,T+(n-1)*s,s⟩:PartT)∈CP k T s c:=by
  unfold CP
  rw [List.mem_map]
  refine ⟨(n-1).toNat,by rw [List.mem_range];omega,?_⟩
  have:((n-1).toNat:Int)=n-1:=ω
  rw [this]
  refine ON rfl ?_ rfl rfl
  show n-1+1=n
  omega
theorem TU {at_:Int} (h:∀ p:PartT,JY p→inF p at_ 1=true→False):ofP at_=none:=by
  cases hf:ofP at_ with
  | none=>rfl
  | some x=>
    obtain ⟨h1,h2⟩:=Ha hf
    exact (h x (Hz x h1) h2).elim
theorem WR:(⟨1,0,0,64⟩:PartT)∈AK:=by unfold AK;exact List.mem_append.2 (.inl (List.mem_append.2 (.inl (List.mem_append.2 (.inl (List.mem_append.2 (.inl (List.mem_append.2 (.inl (List.mem_append.2 (.inl (List.mem_append.2 (.inr (List.mem_singleton.2 rfl))))))))))))))
theorem WS {n:Int} (h1:1≤n) (h2:n≤8):(⟨2,n,64+(n-1)*64,64⟩:PartT)∈AK:=by unfold AK;exact List.mem_append.2 (.inl (List.mem_append.2 (.inl (List.mem_append.2 (.inl (List.mem_append.2 (.inl (List.mem_append.2 (.inl (List.mem_append.2 (.inr (KM h1 h2))))))))))))
theorem WT:(⟨3,0,576,64⟩:PartT)∈AK:=by unfold AK;exact List.mem_append.2 (.inl (List.mem_append.2 (.inl (List.mem_append.2 (.inl (List.mem_append.2 (.inl (List.mem_append.2 (.inr (List.mem_singleton.2 rfl))))))))))
theorem WU {n:Int} (h1:1≤n) (h2:n≤32):(⟨4,n,640+(n-1)*64,64⟩:PartT)∈AK:=by unfold AK;exact List.mem_append.2 (.inl (List.mem_append.2 (.inl (List.mem_append.2 (.inl (List.mem_append.2 (.inr (KM h1 h2))))))))
theorem WV:(⟨5,0,2688,4096⟩:PartT)∈AK:=by unfold AK;exact List.mem_append.2 (.inl (List.mem_append.2 (.inl (List.mem_append.2 (.inr (List.mem_singleton.2 rfl))))))
theorem WW {n:Int} (h1:1≤n) (h2:n≤8):(⟨6,n,6784+(n-1)*1024,1024⟩:PartT)∈AK:=by unfold AK;exact List.mem_append.2 (.inl (List.mem_append.2 (.inr (KM h1 h2))))
theorem WX {n:Int} (h1:1≤n) (h2:n≤128):(⟨7,n,14976+(n-1)*64,64⟩:PartT)∈AK:=by unfold AK;exact List.mem_append.2 (.inr (KM h1 h2))
def XH (p:PartT):Bool:=if p.a+p.s=23168 then (ofP 23168).isNone else match ofP (p.a+p.s) with | none=>false | some q=>decide (q.a=p.a+p.s)
end
section
def XO (o:Option PartT):Value:=.tuple #[ν (o.getD OM).a,ν (o.getD OM).s,.bool o.isSome]
def Xw (o:Option PartT):Value:=.tuple #[ν (o.getD OM).k,ν (o.getD OM).n]
theorem NI (w:World):Calls Tryz.prog 87 #[ν 1] w fun e w'=>e=.returned (.tuple #[ν 0,ν 1,ν 64])∧w=w':=by
  go_enter Tryz.func87,Tryz.ntmps87
  go_wp2
  go_ret3
  exact ⟨rfl,rfl⟩
theorem Qp (w:World):Calls Tryz.prog 88 #[ν 1] w fun e w'=>e=.returned (.bool false)∧w=w':=by
  go_enter Tryz.func88,Tryz.ntmps88
  go_wp2
  go_ret
  exact ⟨rfl,rfl⟩
theorem NJ (w:World):Calls Tryz.prog 87 #[ν 2] w fun e w'=>e=.returned (.tuple #[ν 64,ν 8,ν 64])∧w=w':=by
  go_enter Tryz.func87,Tryz.ntmps87
  go_wp2
  go_ret3
  exact ⟨rfl,rfl⟩
theorem Qq (w:World):Calls Tryz.prog 88 #[ν 2] w fun e w'=>e=.returned (.bool true)∧w=w':=by
  go_enter Tryz.func88,Tryz.ntmps88
  go_wp2
  go_ret
  exact ⟨rfl,rfl⟩
theorem NK (w:World):Calls Tryz.prog 87 #[ν 3] w fun e w'=>e=.returned (.tuple #[ν 576,ν 1,ν 64])∧w=w':=by
  go_enter Tryz.func87,Tryz.ntmps87
  go_wp2
  go_ret3
  exact ⟨rfl,rfl⟩
theorem Qr (w:World):Calls Tryz.prog 88 #[ν 3] w fun e w'=>e=.returned (.bool false)∧w=w':=by
  go_enter Tryz.func88,Tryz.ntmps88
  go_wp2
  go_ret
  exact ⟨rfl,rfl⟩
theorem NL (w:World):Calls Tryz.prog 87 #[ν 4] w fun e w'=>e=.returned (.tuple #[ν 640,ν 32,ν 64])∧w=w':=by
  go_enter Tryz.func87,Tryz.ntmps87
  go_wp2
  go_ret3
  exact ⟨rfl,rfl⟩
theorem Qs (w:World):Calls Tryz.prog 88 #[ν 4] w fun e w'=>e=.returned (.bool true)∧w=w':=by
  go_enter Tryz.func88,Tryz.ntmps88
  go_wp2
  go_ret
  exact ⟨rfl,rfl⟩
theorem NM (w:World):Calls Tryz.prog 87 #[ν 5] w fun e w'=>e=.returned (.tuple #[ν 2688,ν 1,ν 4096])∧w=w':=by
  go_enter Tryz.func87,Tryz.ntmps87
  go_wp2
  go_ret3
  exact ⟨rfl,rfl⟩
theorem Qt (w:World):Calls Tryz.prog 88 #[ν 5] w fun e w'=>e=.returned (.bool false)∧w=w':=by
  go_enter Tryz.func88,Tryz.ntmps88
  go_wp2
  go_ret
  exact ⟨rfl,rfl⟩
theorem NN (w:World):Calls Tryz.prog 87 #[ν 6] w fun e w'=>e=.returned (.tuple #[ν 6784,ν 8,ν 1024])∧w=w':=by
  go_enter Tryz.func87,Tryz.ntmps87
  go_wp2
  go_ret3
  exact ⟨rfl,rfl⟩
theorem Qu (w:World):Calls Tryz.prog 88 #[ν 6] w fun e w'=>e=.returned (.bool true)∧w=w':=by
  go_enter Tryz.func88,Tryz.ntmps88
  go_wp2
  go_ret
  exact ⟨rfl,rfl⟩
theorem NO (w:World):Calls Tryz.prog 87 #[ν 7] w fun e w'=>e=.returned (.tuple #[ν 14976,ν 128,ν 64])∧w=w':=by
  go_enter Tryz.func87,Tryz.ntmps87
  go_wp2
  go_ret3
  exact ⟨rfl,rfl⟩
theorem Qv (w:World):Calls Tryz.prog 88 #[ν 7] w fun e w'=>e=.returned (.bool true)∧w=w':=by
  go_enter Tryz.func88,Tryz.ntmps88
  go_wp2
  go_ret
  exact ⟨rfl,rfl⟩
theorem Sy (at_:Int) (w:World) (ha:wfI at_):Calls Tryz.prog 63 #[ν at_] w fun e w'=>e=.returned (Xw (ofP at_))∧w=w':=by
  unfold wfI at ha
  go_enter Tryz.func63,Tryz.ntmps63
  go_wp2
  go_loop [4] (fun i=>∃ j:Int,1≤j∧j≤8∧i=ν j∧(at_<0∨(j=1∧0≤at_)∨(j=2∧64≤at_)∨(j=3∧576≤at_)∨(j=4∧640≤at_)∨(j=5∧2688≤at_)∨(j=6∧6784≤at_)∨(j=7∧14976≤at_)∨(j=8∧23168≤at_))) (fun i=>(8-intOf i).toNat)
  case atStart=>exact ⟨1,ω,ω,rfl,ω⟩
  case round=>
  obtain ⟨j,hj1,hj2,rfl,hp⟩:=hrel
  rcases (ω:j=1∨j=2∨j=3∨j=4∨j=5∨j=6∨j=7∨j=8) with rfl | rfl | rfl | rfl | rfl | rfl | rfl | rfl
  · rcases (ω:at_<0∨(0≤at_∧64≤at_)∨(0≤at_∧at_<64)) with h | ⟨h,h'⟩ | ⟨h,h'⟩
    · have d1:decide (0≤at_)=false:=decide_eq_false ω
      have hn:at_<0:=ω
      clear hp h
      go_wp2_with (go_at_call 87;refine (NI _).mono ?_;rintro e w' ⟨rfl,rfl⟩)
      go_round
      case rel=>exact ⟨2,ω,ω,rfl,.inl hn⟩
      case measure=>simp [intOf]
    · have d1:decide (0≤at_)=true:=decide_eq_true h
      have d2:decide (at_<64)=false:=decide_eq_false ω
      clear hp h
      go_wp2_with (go_at_call 87;refine (NI _).mono ?_;rintro e w' ⟨rfl,rfl⟩)
      go_round
      case rel=>exact ⟨2,ω,ω,rfl,ω⟩
      case measure=>simp [intOf]
    · have HR:Hid (ofP at_=some ⟨1,0,0,64⟩):=EG WR (decide_eq_true (by show (0:Int)≤1∧_;simp only;omega))
      have d1:decide (0≤at_)=true:=decide_eq_true h
      have d2:decide (at_<64)=true:=decide_eq_true h'
      clear hp
      go_wp2_with (first
        | (go_at_call 87;refine (NI _).mono ?_;rintro e w' ⟨rfl,rfl⟩)
        | (go_at_call 88;refine (Qp _).mono ?_;rintro e w' ⟨rfl,rfl⟩))
      go_ret2
      exact ⟨by rw [HR.out];rfl,rfl⟩
  · rcases (ω:at_<64∨(64≤at_∧576≤at_)∨(64≤at_∧at_<576)) with h | ⟨h,h'⟩ | ⟨h,h'⟩
    · have d1:decide (64≤at_)=false:=decide_eq_false ω
      have hn:at_<0:=ω
      clear hp h
      go_wp2_with (go_at_call 87;refine (NJ _).mono ?_;rintro e w' ⟨rfl,rfl⟩)
      go_round
      case rel=>exact ⟨3,ω,ω,rfl,.inl hn⟩
      case measure=>simp [intOf]
    · have d1:decide (64≤at_)=true:=decide_eq_true h
      have d2:decide (at_<576)=false:=decide_eq_false ω
      clear hp h
      go_wp2_with (go_at_call 87;refine (NJ _).mono ?_;rintro e w' ⟨rfl,rfl⟩)
      go_round
      case rel=>exact ⟨3,ω,ω,rfl,ω⟩
      case measure=>simp [intOf]
    · have HR:Hid (ofP at_=some ⟨2,(at_-64) / 64+1,64+((at_-64) / 64+1-1)*64,64⟩):=EG (WS (n:=(at_-64) / 64+1) ω ω) (decide_eq_true (by show (0:Int)≤1∧_;simp only;omega))
      have d1:decide (64≤at_)=true:=decide_eq_true h
      have d2:decide (at_<576)=true:=decide_eq_true h'
      clear hp
      go_wp2_with (first
        | (go_at_call 87;refine (NJ _).mono ?_;rintro e w' ⟨rfl,rfl⟩)
        | (go_at_call 88;refine (Qq _).mono ?_;rintro e w' ⟨rfl,rfl⟩))
      go_ret2
      exact ⟨by rw [HR.out];rfl,rfl⟩
  · rcases (ω:at_<576∨(576≤at_∧640≤at_)∨(576≤at_∧at_<640)) with h | ⟨h,h'⟩ | ⟨h,h'⟩
    · have d1:decide (576≤at_)=false:=decide_eq_false ω
      have hn:at_<0:=ω
      clear hp h
      go_wp2_with (go_at_call 87;refine (NK _).mono ?_;rintro e w' ⟨rfl,rfl⟩)
      go_round
      case rel=>exact ⟨4,ω,ω,rfl,.inl hn⟩
      case measure=>simp [intOf]
    · have d1:decide (576≤at_)=true:=decide_eq_true h
      have d2:decide (at_<640)=false:=decide_eq_false ω
      clear hp h
      go_wp2_with (go_at_call 87;refine (NK _).mono ?_;rintro e w' ⟨rfl,rfl⟩)
      go_round
      case rel=>exact ⟨4,ω,ω,rfl,ω⟩
      case measure=>simp [intOf]
    · have HR:Hid (ofP at_=some ⟨3,0,576,64⟩):=EG WT (decide_eq_true (by show (0:Int)≤1∧_;simp only;omega))
      have d1:decide (576≤at_)=true:=decide_eq_true h
      have d2:decide (at_<640)=true:=decide_eq_true h'
      clear hp
      go_wp2_with (first
        | (go_at_call 87;refine (NK _).mono ?_;rintro e w' ⟨rfl,rfl⟩)
        | (go_at_call 88;refine (Qr _).mono ?_;rintro e w' ⟨rfl,rfl⟩))
      go_ret2
      exact ⟨by rw [HR.out];rfl,rfl⟩
  · rcases (ω:at_<640∨(640≤at_∧2688≤at_)∨(640≤at_∧at_<2688)) with h | ⟨h,h'⟩ | ⟨h,h'⟩
    · have d1:decide (640≤at_)=false:=decide_eq_false ω
      have hn:at_<0:=ω
      clear hp h
      go_wp2_with (go_at_call 87;refine (NL _).mono ?_;rintro e w' ⟨rfl,rfl⟩)
      go_round
      case rel=>exact ⟨5,ω,ω,rfl,.inl hn⟩
      case measure=>simp [intOf]
    · have d1:decide (640≤at_)=true:=decide_eq_true h
      have d2:decide (at_<2688)=false:=decide_eq_false ω
      clear hp h
      go_wp2_with (go_at_call 87;refine (NL _).mono ?_;rintro e w' ⟨rfl,rfl⟩)
      go_round
      case rel=>exact ⟨5,ω,ω,rfl,ω⟩
      case measure=>simp [intOf]
    · have HR:Hid (ofP at_=some ⟨4,(at_-640) / 64+1,640+((at_-640) / 64+1-1)*64,64⟩):=EG (WU (n:=(at_-640) / 64+1) ω ω) (decide_eq_true (by show (0:Int)≤1∧_;simp only;omega))
      have d1:decide (640≤at_)=true:=decide_eq_true h
      have d2:decide (at_<2688)=true:=decide_eq_true h'
      clear hp
      go_wp2_with (first
        | (go_at_call 87;refine (NL _).mono ?_;rintro e w' ⟨rfl,rfl⟩)
        | (go_at_call 88;refine (Qs _).mono ?_;rintro e w' ⟨rfl,rfl⟩))
      go_ret2
      exact ⟨by rw [HR.out];rfl,rfl⟩
  · rcases (ω:at_<2688∨(2688≤at_∧6784≤at_)∨(2688≤at_∧at_<6784)) with h | ⟨h,h'⟩ | ⟨h,h'⟩
    · have d1:decide (2688≤at_)=false:=decide_eq_false ω
      have hn:at_<0:=ω
      clear hp h
      go_wp2_with (go_at_call 87;refine (NM _).mono ?_;rintro e w' ⟨rfl,rfl⟩)
      go_round
      case rel=>exact ⟨6,ω,ω,rfl,.inl hn⟩
      case measure=>simp [intOf]
    · have d1:decide (2688≤at_)=true:=decide_eq_true h
      have d2:decide (at_<6784)=false:=decide_eq_false ω
      clear hp h
      go_wp2_with (go_at_call 87;refine (NM _).mono ?_;rintro e w' ⟨rfl,rfl⟩)
      go_round
      case rel=>exact ⟨6,ω,ω,rfl,ω⟩
      case measure=>simp [intOf]
    · have HR:Hid (ofP at_=some ⟨5,0,2688,4096⟩):=EG WV (decide_eq_true (by show (0:Int)≤1∧_;simp only;omega))
      have d1:decide (2688≤at_)=true:=decide_eq_true h
      have d2:decide (at_<6784)=true:=decide_eq_true h'
      clear hp
      go_wp2_with (first
        | (go_at_call 87;refine (NM _).mono ?_;rintro e w' ⟨rfl,rfl⟩)
        | (go_at_call 88;refine (Qt _).mono ?_;rintro e w' ⟨rfl,rfl⟩))
      go_ret2
      exact ⟨by rw [HR.out];rfl,rfl⟩
  · rcases (ω:at_<6784∨(6784≤at_∧14976≤at_)∨(6784≤at_∧at_<14976)) with h | ⟨h,h'⟩ | ⟨h,h'⟩
    · have d1:decide (6784≤at_)=false:=decide_eq_false ω
      have hn:at_<0:=ω
      clear hp h
      go_wp2_with (go_at_call 87;refine (NN _).mono ?_;rintro e w' ⟨rfl,rfl⟩)
      go_round
      case rel=>exact ⟨7,ω,ω,rfl,.inl hn⟩
      case measure=>simp [intOf]
    · have d1:decide (6784≤at_)=true:=decide_eq_true h
      have d2:decide (at_<14976)=false:=decide_eq_false ω
      clear hp h
      go_wp2_with (go_at_call 87;refine (NN _).mono ?_;rintro e w' ⟨rfl,rfl⟩)
      go_round
      case rel=>exact ⟨7,ω,ω,rfl,ω⟩
      case measure=>simp [intOf]
    · have HR:Hid (ofP at_=some ⟨6,(at_-6784) / 1024+1,6784+((at_-6784) / 1024+1-1)*1024,1024⟩):=EG (WW (n:=(at_-6784) / 1024+1) ω ω) (decide_eq_true (by show (0:Int)≤1∧_;simp only;omega))
      have d1:decide (6784≤at_)=true:=decide_eq_true h
      have d2:decide (at_<14976)=true:=decide_eq_true h'
      clear hp
      go_wp2_with (first
        | (go_at_call 87;refine (NN _).mono ?_;rintro e w' ⟨rfl,rfl⟩)
        | (go_at_call 88;refine (Qu _).mono ?_;rintro e w' ⟨rfl,rfl⟩))
      go_ret2
      exact ⟨by rw [HR.out];rfl,rfl⟩
  · rcases (ω:at_<14976∨(14976≤at_∧23168≤at_)∨(14976≤at_∧at_<23168)) with h | ⟨h,h'⟩ | ⟨h,h'⟩
    · have d1:decide (14976≤at_)=false:=decide_eq_false ω
      have hn:at_<0:=ω
      clear hp h
      go_wp2_with (go_at_call 87;refine (NO _).mono ?_;rintro e w' ⟨rfl,rfl⟩)
      go_round
      case rel=>exact ⟨8,ω,ω,rfl,.inl hn⟩
      case measure=>simp [intOf]
    · have d1:decide (14976≤at_)=true:=decide_eq_true h
      have d2:decide (at_<23168)=false:=decide_eq_false ω
      clear hp h
      go_wp2_with (go_at_call 87;refine (NO _).mono ?_;rintro e w' ⟨rfl,rfl⟩)
      go_round
      case rel=>exact ⟨8,ω,ω,rfl,ω⟩
      case measure=>simp [intOf]
    · have HR:Hid (ofP at_=some ⟨7,(at_-14976) / 64+1,14976+((at_-14976) / 64+1-1)*64,64⟩):=EG (WX (n:=(at_-14976) / 64+1) ω ω) (decide_eq_true (by show (0:Int)≤1∧_;simp only;omega))
      have d1:decide (14976≤at_)=true:=decide_eq_true h
      have d2:decide (at_<23168)=true:=decide_eq_true h'
      clear hp
      go_wp2_with (first
        | (go_at_call 87;refine (NO _).mono ?_;rintro e w' ⟨rfl,rfl⟩)
        | (go_at_call 88;refine (Qv _).mono ?_;rintro e w' ⟨rfl,rfl⟩))
      go_ret2
      exact ⟨by rw [HR.out];rfl,rfl⟩
  · have HR:Hid (ofP at_=none):=TU (fun p hp h1=>by unfold JY at hp;unfold inF at h1;have h1:=of_decide_eq_true h1;omega)
    clear hp
    go_wp2
    go_ret2
    exact ⟨by rw [HR.out];rfl,rfl⟩
end
section
theorem UX {kd nm:Int} {k n a s:Int} (h:Lp kd nm=some ⟨k,n,a,s⟩) (w:World):Calls Tryz.prog 100 #[ν kd,ν nm] w fun e w'=>e=.returned (.tuple #[.agg #[ν k,ν n,ν a,ν s],.bool true])∧Below w.heap.size w w':=by
  have q:=Ty kd nm w
  rw [h] at q
  exact q
theorem WZ {at_:Int} (ha:wfI at_) {k n a s:Int} (h:ofP at_=some ⟨k,n,a,s⟩) (w:World):Calls Tryz.prog 103 #[ν at_] w fun e w'=>e=.returned (.tuple #[.agg #[ν k,ν n,ν a,ν s],.bool true])∧Below w.heap.size w w':=by
  have q:=TV at_ w ha
  rw [h] at q
  exact q
theorem Xa {at_:Int} (ha:wfI at_) (h:ofP at_=none) (w:World):Calls Tryz.prog 103 #[ν at_] w fun e w'=>e=.returned (.tuple #[.agg #[ν 0,ν 0,ν 0,ν 0],.bool false])∧Below w.heap.size w w':=by
  have q:=TV at_ w ha
  rw [h] at q
  exact q
end
section
def AJ (g v d p:Nat) (M:MemM):Ch where
  F b:=b=g∨b=v∨b=d∨b=p
  P w:=MemP w g v d p M
  keep h t:=h.turns t (fun q=>q (.inl rfl)) (fun q=>q (.inr (.inl rfl))) (fun q=>q (.inr (.inr (.inl rfl)))) (fun q=>q (.inr (.inr (.inr rfl))))
  lt h b hb:=by
    obtain ⟨_,_,_,_,_,_,h1,h2,h3,h4⟩:=Ep h
    rcases hb with e | e | e | e<;>omega
def AV (g v d a:Nat) (M:MemM):Ch where
  F b:=b=g∨b=v∨b=d∨b=a
  P w:=MemR w g v d a M
  keep h t:=h.turns t (fun q=>q (.inl rfl)) (fun q=>q (.inr (.inl rfl))) (fun q=>q (.inr (.inr (.inl rfl)))) (fun q=>q (.inr (.inr (.inr rfl))))
  lt h b hb:=by
    obtain ⟨_,_,_,_,_,_,h1,h2,h3,h4⟩:=EY h
    rcases hb with e | e | e | e<;>omega
theorem Sep.head {w w':World} {c c':Ch} {R:List Ch} (h:Sep w (c::R)) {X:Nat→Prop} (t:Turns X w w') (hX:∀ k,k<w.heap.size→X k→c.F k) (hc:c'.P w') (hF:∀ k,c'.F k→c.F k∨w.heap.size≤k):Sep w' (c'::R):=
  h.upd 0 rfl t hX hc hF
abbrev pG (g:Nat):Value:=π g
def JX (x:Int):Prop:=-9223372036854775808≤x∧x≤9223372036854775807
section
variable {w:World} {g v d p:Nat} {M:MemM} {R:List Ch}
abbrev Ay (X:List UInt8) (at_ n:Int):List UInt8:=(X.drop at_.toNat).take n.toNat
theorem Jq {X:List UInt8} {M:MemM} {at_ n:Int} (hX:X.length=M.V.length) (hi:inM M at_ n=true):(Ay X at_ n).length=n.toNat:=by
  obtain ⟨a,m,rfl,rfl,h⟩:=ED hi
  show ((X.drop a).take m).length=m
  rw [List.length_take,List.length_drop];omega
theorem Ur {f:FuncId} {args:Array Value} {X:List UInt8} {at_ n:Int} (hS:Sep w R) (h:Calls Tryz.prog f args w (KU X M at_ n w)) (hi:inM M at_ n=true) (hX:X.length=M.V.length) :
    CallsR Tryz.prog f args w (fun x w'=>∃ a c,x=.tuple #[.slice a (Ay X at_ n).length c,ν 0]∧Sep w' (Gb 0 5 1 a (Ay X at_ n).length c ((Ay X at_ n).map Ap)::R)):=
  Calls.mono h fun e w' h=>by
    unfold KU at h;rw [if_pos hi] at h
    obtain ⟨a,c,rfl,ho,b⟩:=h
    exact ⟨_,rfl,a,c,by rw [Jq hX hi],hS.push b (c:=Gb 0 5 1 a _ c _) (Own.low ho (Nat.zero_le _)) fun k hk=>(World.ownsRow.lt ho k hk).1⟩
theorem Nk (hS:Sep w (AJ g v d p M::R)) {at_ n:Int} (hi:inM M at_ n=true) (ha:JX at_) (hn:JX n) :
    CallsR Tryz.prog 15 #[pG g,ν at_,ν n] w (fun x w'=>∃ a c,x=.tuple #[.slice a (Ay M.V at_ n).length c,ν 0]∧Sep w' (Gb 0 5 1 a (Ay M.V at_ n).length c ((Ay M.V at_ n).map Ap)::AJ g v d p M::R)):=
  Ur hS (TO (hS.get 0 rfl:MemP _ _ _ _ _ _) at_ n ha hn) hi rfl
theorem Rs (hS:Sep w (AJ g v d p M::R)) {at_:Int} {a:Option Addr} {c:Nat} {b:List UInt8} (hr:BB w a c b) (hi:inM M at_ b.length=true) (ha:JX at_) :
    CallsR Tryz.prog 77 #[pG g,ν at_,.slice a b.length c] w (fun x w'=>x=ν 0∧Sep w' (AJ g v d p (CM M at_.toNat b)::R)):=
  Calls.mono (SF (hS.get 0 rfl:MemP _ _ _ _ _ _) at_ ha a c b hr) fun e w' h=>by
    unfold JO at h;rw [if_pos hi] at h
    obtain ⟨rfl,hm,t⟩:=h
    exact ⟨_,rfl,rfl,hS.head t (fun k _ q=>q.elim (fun q=>.inr (.inl q)) (fun q=>.inr (.inr (.inr q)))) (c':=AJ g v d p _) hm fun k q=>.inl q⟩
theorem UY (hS:Sep w (AJ g v d p M::R)) {at_ n:Int} (hi:inM M at_ n=true) (ha:JX at_) (hn:JX n) :
    CallsR Tryz.prog 79 #[pG g,ν at_,ν n] w (fun x w'=>x=ν 0∧Sep w' (AJ g v d p (En M at_.toNat n.toNat)::R)):=
  Calls.mono (Sa (hS.get 0 rfl:MemP _ _ _ _ _ _) at_ n ha hn) fun e w' h=>by
    unfold JM at h;rw [if_pos hi] at h
    obtain ⟨rfl,hm,t⟩:=h
    exact ⟨_,rfl,rfl,hS.head t (fun k _ q=>.inr (.inr (.inr q))) (c':=AJ g v d p _) hm fun k q=>.inl q⟩
theorem UW (hS:Sep w (AJ g v d p M::R)) :
    CallsR Tryz.prog 80 #[pG g] w (fun x w'=>∃ y,x=y∧Sep w' (AJ g v d p (Fj M)::R)):=
  Calls.mono (RX (hS.get 0 rfl:MemP _ _ _ _ _ _)) fun e w' ⟨⟨x,e1⟩,hm,t⟩=>
    ⟨x,e1,x,rfl,hS.head t (fun k _ q=>q.elim (fun q=>.inr (.inr (.inl q))) (fun q=>.inr (.inr (.inr q)))) (c':=AJ g v d p _) hm fun k q=>.inl q⟩
theorem UO (hS:Sep w (AJ g v d p M::R)) {picks:List Int} {ap:Option Addr} {cp:Nat} (hr:GB w ap cp picks) (hok:Ga picks) (hs:0<picks.length→∀ b,(∃ off,ap=some ⟨b,off,none⟩)→b≠d) :
    CallsR Tryz.prog 23 #[pG g,.slice ap picks.length cp] w (fun x w'=>∃ y,x=y∧Sep w' (AJ g v d p (DY M picks)::R)):=
  Calls.mono (RI (hS.get 0 rfl:MemP _ _ _ _ _ _) picks ap cp hr hok hs) fun e w' ⟨⟨x,e1⟩,hm,t⟩=>
    ⟨x,e1,x,rfl,hS.head t (fun k _ q=>q.elim (fun q=>.inr (.inl q)) (fun q=>q.elim (fun q=>.inr (.inr (.inl q))) (fun q=>.inr (.inr (.inr q))))) (c':=AJ g v d p _) hm fun k q=>.inl q⟩
theorem WA (hS:Sep w (AJ g v d p M::R)) :
    CallsR Tryz.prog 28 #[pG g] w (fun x w'=>x=ν M.V.length∧Sep w' (AJ g v d p M::R)):=
  Calls.mono (LR (hS.get 0 rfl:MemP _ _ _ _ _ _)) fun e w' ⟨e1,e2⟩=>⟨_,e1,rfl,e2 ▸ hS⟩
theorem Wr (hS:Sep w R) {n:Int} (hv:Ee n) :
    CallsR Tryz.prog 12 #[ν n] w (fun x w'=>∃ g v d p,x=pG g∧Sep w' (AJ g v d p (Dd n.toNat)::R)):=
  Calls.mono (TS n w (by unfold Ee at hv;omega)) fun e w' h=>by
    unfold Rx at h;rw [if_pos hv] at h
    obtain ⟨g,v,d,p,rfl,hm,hb,b⟩:=h
    exact ⟨_,rfl,g,v,d,p,rfl,hS.push b (c:=AJ g v d p _) hm fun k q=>by rcases q with q | q | q | q<;>omega⟩
theorem Pt (hS:Sep w (AV g v d p M::R)) {at_:Int} {a:Option Addr} {c:Nat} {b:List UInt8} (hr:BB w a c b) (hs:0<b.length→∀ k,(∃ off,a=some ⟨k,off,none⟩)→k≠v∧k≠p) (hi:inM M at_ b.length=true) (ha:JX at_) :
    CallsR Tryz.prog 42 #[pG g,ν at_,.slice a b.length c] w (fun x w'=>x=ν 0∧Sep w' (AV g v d p (CM M at_.toNat b)::R)):=
  Calls.mono (QJ (hS.get 0 rfl:MemR _ _ _ _ _ _) at_ ha a c b hr hs) fun e w' h=>by
    unfold JP at h;rw [if_pos hi] at h
    obtain ⟨rfl,hm,t⟩:=h
    exact ⟨_,rfl,rfl,hS.head t (fun k _ q=>q.elim (fun q=>.inr (.inl q)) (fun q=>.inr (.inr (.inr q)))) (c':=AV g v d p _) hm fun k q=>.inl q⟩
theorem TA (hS:Sep w (AV g v d p M::R)) {at_ n:Int} (hi:inM M at_ n=true) (ha:JX at_) (hn:JX n) :
    CallsR Tryz.prog 44 #[pG g,ν at_,ν n] w (fun x w'=>x=ν 0∧Sep w' (AV g v d p (En M at_.toNat n.toNat)::R)):=
  Calls.mono (Qd (hS.get 0 rfl:MemR _ _ _ _ _ _) at_ n ha hn) fun e w' h=>by
    unfold JN at h;rw [if_pos hi] at h
    obtain ⟨rfl,hm,t⟩:=h
    exact ⟨_,rfl,rfl,hS.head t (fun k _ q=>.inr (.inr (.inr q))) (c':=AV g v d p _) hm fun k q=>.inl q⟩
theorem Tx (hS:Sep w (AV g v d p M::R)) :
    CallsR Tryz.prog 45 #[pG g] w (fun x w'=>∃ y,x=y∧Sep w' (AV g v d p (Fj M)::R)):=
  Calls.mono (Qb (hS.get 0 rfl:MemR _ _ _ _ _ _)) fun e w' ⟨⟨x,e1⟩,hm,t⟩=>
    ⟨x,e1,x,rfl,hS.head t (fun k _ q=>q.elim (fun q=>.inr (.inr (.inl q))) (fun q=>.inr (.inr (.inr q)))) (c':=AV g v d p _) hm fun k q=>.inl q⟩
theorem Td (hS:Sep w (AV g v d p M::R)) {picks:List Int} {ap:Option Addr} {cp:Nat} (hr:GB w ap cp picks) (hok:Ga picks) (hs:0<picks.length→∀ b,(∃ off,ap=some ⟨b,off,none⟩)→b≠d∧b≠p) :
    CallsR Tryz.prog 24 #[pG g,.slice ap picks.length cp] w (fun x w'=>∃ y,x=y∧Sep w' (AV g v d p (DY M picks)::R)):=
  Calls.mono (PE (hS.get 0 rfl:MemR _ _ _ _ _ _) picks ap cp hr hok hs) fun e w' ⟨⟨x,e1⟩,hm,t⟩=>
    ⟨x,e1,x,rfl,hS.head t (fun k _ q=>q.elim (fun q=>.inr (.inl q)) (fun q=>q.elim (fun q=>.inr (.inr (.inl q))) (fun q=>.inr (.inr (.inr q))))) (c':=AV g v d p _) hm fun k q=>.inl q⟩
theorem Ws (hS:Sep w R) {n:Int} (hv:Ee n) :
    CallsR Tryz.prog 21 #[ν n] w (fun x w'=>∃ g v d p,x=pG g∧Sep w' (AV g v d p (Dd n.toNat)::R)):=
  Calls.mono (TT n w (by unfold Ee at hv;omega)) fun e w' h=>by
    unfold SP at h;rw [if_pos hv] at h
    obtain ⟨g,v,d,p,rfl,hm,hb,b⟩:=h
    exact ⟨_,rfl,g,v,d,p,rfl,hS.push b (c:=AV g v d p _) hm fun k q=>by rcases q with q | q | q | q<;>omega⟩
theorem Er {f:FuncId} {args:Array Value} {x:Value} (hS:Sep w R) (h:Calls Tryz.prog f args w fun e w'=>e=.returned x∧Below w.heap.size w w'):CallsR Tryz.prog f args w (fun v w'=>v=x∧Sep w' R):=
  Calls.mono h fun e w' ⟨e1,b⟩=>⟨x,e1,rfl,hS.mono b⟩
end
end
section
def AX (n k:Int):Bool:=
  if k=1 then decide (0≤n)&&decide (n<256) else if k=2 then decide (0≤n)&&decide (n<65536)
  else if k=4 then decide (0≤n)&&decide (n<4294967296) else if k=8 then decide (0≤n) else false
theorem Fk (n k:Int) (w:World) :
    Calls Tryz.prog 71 #[.int .i64 n,.int .i64 k] w fun e w'=>e=.returned (.bool (AX n k))∧w=w':=by
  rcases (by omega:k=1∨k=2∨k=4∨k=8∨(k≠1∧k≠2∧k≠4∧k≠8)) with rfl | rfl | rfl | rfl | ⟨k1,k2,k4,k8⟩
  all_goals
    by_cases h0:0≤n
    all_goals
      go_enter Tryz.func71,Tryz.ntmps71;go_wp2;go_ret
      refine ⟨Bd ?_,rfl⟩
      simp [AX, *]<;>omega
theorem Mx {n:Int} (k:Int) (h:n<0):AX n k=false:=by
  unfold AX
  repeat' split
  all_goals simp<;>omega
theorem IY (n:Int) {k:Int} (k1:k≠1) (k2:k≠2) (k4:k≠4) (k8:k≠8):AX n k=false:=by
  simp [AX, *]
theorem Wu (k:Nat) (h:k≤6):256 ^ k≤256 ^ 6:=Nat.pow_le_pow_right ω h
theorem Kd (n:Nat) (hn:n≤7) (w:World) :
    Calls Tryz.prog 89 #[ν n] w fun e w'=>e=.returned (ν (256 ^ n:Nat))∧w=w':=by
  go_enter Tryz.func89,Tryz.ntmps89
  go_wp2
  go_loop [3,4] (fun p i=>∃ k:Nat,k≤n∧i=ν k∧p=ν (256 ^ k:Nat)) (fun _ i=>n-(intOf i).toNat)
  case atStart=>exact ⟨0,Nat.zero_le _,rfl,rfl⟩
  case round=>
    obtain ⟨k,hk,rfl,rfl⟩:=hrel
    by_cases hlt:k<n
    · have hb:=Wu k ω
      have e7:256 ^ 6=281474976710656:=by decide
      rw [e7] at hb;clear e7
      have hs:256 ^ (k+1)=256 ^ k*256:=Nat.pow_succ ..
      have HS:=hid hs;clear hs
      generalize 256 ^ k=q at *
      go_wp2
      go_round
      case rel=>exact ⟨k+1,ω,by go_num,by rw [HS.out];go_num⟩
      case measure=>simp [intOf];omega
    · obtain rfl:k=n:=ω
      go_wp2
      go_ret
      exact ⟨rfl,rfl⟩
theorem FL (n k:Int) (w:World) :
    Calls Tryz.prog 64 #[.int .i64 n,.int .i64 k] w fun e w'=>e=.returned (.bool (AX n k))∧w=w':=by
  by_cases h0:0≤n
  · rcases (by omega:k=1∨k=2∨k=4∨k=8∨(k≠1∧k≠2∧k≠4∧k≠8)) with rfl | rfl | rfl | rfl | ⟨k1,k2,k4,k8⟩
    case inl=>
      go_enter Tryz.func64,Tryz.ntmps64
      go_wp2_with (go_at_call 89;refine (Kd 1 (by omega) _).mono ?_;rintro e w' ⟨rfl,rfl⟩)
      go_ret
      exact ⟨Bd (by simp [AX,h0]),rfl⟩
    case inr.inl=>
      go_enter Tryz.func64,Tryz.ntmps64
      go_wp2_with (go_at_call 89;refine (Kd 2 (by omega) _).mono ?_;rintro e w' ⟨rfl,rfl⟩)
      go_ret
      exact ⟨Bd (by simp [AX,h0]),rfl⟩
    case inr.inr.inl=>
      go_enter Tryz.func64,Tryz.ntmps64
      go_wp2_with (go_at_call 89;refine (Kd 4 (by omega) _).mono ?_;rintro e w' ⟨rfl,rfl⟩)
      go_ret
      exact ⟨Bd (by simp [AX,h0]),rfl⟩
    case inr.inr.inr.inl=>
      go_enter Tryz.func64,Tryz.ntmps64
      go_wp2_with fail
      go_ret
      exact ⟨Bd (by simp [AX, *]),rfl⟩
    case inr.inr.inr.inr=>
      have b1:(k != 1)=true:=by simpa using k1
      have b2:(k != 2)=true:=by simpa using k2
      have b4:(k != 4)=true:=by simpa using k4
      have b8:(k == 8)=false:=by simpa using k8
      go_enter Tryz.func64,Tryz.ntmps64
      go_wp2_with fail
      go_ret
      exact ⟨Bd (IY n k1 k2 k4 k8).symm,rfl⟩
  · go_enter Tryz.func64,Tryz.ntmps64
    go_wp2_with fail
    go_ret
    exact ⟨Bd (Mx k (by omega)).symm,rfl⟩
def le:Nat→Nat→List UInt8
  | 0,_=>[]
  | k+1,n=>UInt8.ofNat n::le k (n / 256)
theorem AH (k n:Nat):(le k n).length=k:=by
  induction k generalizing n with
  | zero=>rfl
  | succ k ih=>simp [le,ih]
def DK (xs:List UInt8) (n k:Int):List UInt8:=if AX n k then xs++le k.toNat n.toNat else xs
theorem Nj (j n:Nat):le (j+1) n=le j n++[UInt8.ofNat (n / 256 ^ j)]:=by
  induction j generalizing n with
  | zero=>simp [le]
  | succ j ih=>
    show UInt8.ofNat n::le (j+1) (n / 256)=UInt8.ofNat n::le j (n / 256)++[_]
    rw [ih,Nat.div_div_eq_div_mul,Nat.pow_succ,Nat.mul_comm 256];rfl
theorem Hw {n k:Int} (h:AX n k=true):0≤n∧1≤k∧k≤8:=by
  by_cases h0:0≤n
  · refine ⟨h0,?_⟩
    by_cases k1:k=1
    · omega
    by_cases k2:k=2
    · omega
    by_cases k4:k=4
    · omega
    by_cases k8:k=8
    · omega
    rw [IY n k1 k2 k4 k8] at h;cases h
  · rw [Mx k ω] at h;cases h
theorem VF (q:Nat):IntKind.u8.wrap ((q % 256:Nat):Int)=((UInt8.ofNat q).toNat:Int):=by
  simp [IntKind.wrap,IntKind.signed,IntKind.bits]
theorem Je (a:Option Addr) (c:Nat) (xs:List UInt8) (n k:Int) (w:World) (ha:BB w a c xs) (hl:xs.length≤70368744177664) (hn9:n≤9223372036854775807) :
    Calls Tryz.prog 47 #[.slice a xs.length c,ν n,ν k] w (Ry w (DK xs n k)):=by
  have t1:True:=trivial
  by_cases hf:AX n k=true
  · have hk:=Hw hf
    obtain ⟨N,rfl⟩:=Int.eq_ofNat_of_zero_le hk.1
    obtain ⟨K,rfl⟩:=Int.eq_ofNat_of_zero_le (ω:0≤k)
    go_enter Tryz.func47,Tryz.ntmps47
    go_wp2_with (first
      | (at_builtin;have _t:=t1;refine DN rfl (.tmp 10) (.tmp 11) rfl E8 w.heap.size rfl rfl (Own.nil _ _ _ _) ha (DP xs) ω ω (Nat.le_refl _) ?_;clear t1;intro a1 c1 w1 hown hgrow hbel;simp only [Nat.zero_add,List.nil_append] at hown))
    refine (FL _ _ _).mono ?_
    rintro e w' ⟨rfl,rfl⟩
    clear hgrow ha
    rw [hf]
    have HF:=hid hf;clear hf
    go_wp2_with fail
    have hb0:=hbel.size
    go_loopw [7,9,1] (fun v i m wr=>∃ (j:Nat) (a':Option Addr) (c':Nat),j≤K∧i=ν j∧m=ν (N / 256 ^ j:Nat)∧v=.slice a' (xs.length+j) c'∧Own wr w.heap.size 5 1 a' (xs.length+j) c' ((xs++le j N).map Ap)∧Below w.heap.size w wr)
      (fun _ i _ _=>K-(intOf i).toNat)
    case atStart=>exact ⟨0,a1,c1,Nat.zero_le _,rfl,by simp,by simp,by simpa [le] using hown,hbel⟩
    case round=>
      obtain ⟨j,a',c',hj,rfl,rfl,rfl,hown,hbel⟩:=hrel
      by_cases hlt:j<K
      · have hq:N / 256 ^ j≤N:=Nat.div_le_self _ _
        have hs:N / 256 ^ (j+1)=N / 256 ^ j / 256:=by rw [Nat.div_div_eq_div_mul,Nat.pow_succ]
        have hle:=Nj j N
        have HS:=hid hs;have HL:=hid hle;clear hs hle
        generalize N / 256 ^ j=q at *
        go_wp2_with (first
          | (at_builtin;refine DN rfl (.tmp 24) (.tmp 28) rfl E8 w.heap.size rfl rfl (hown.alloc _) (LG _ _ _) (by simp [Value.oneCell']) ω ω (by have:=hbel.size;simp;omega) ?_;intro a2 c2 w2 hown2 hgrow2 hbel2))
        go_roundw
        case rel=>exact ⟨j+1,a2,c2,ω,by go_num,by rw [HS.out];go_num,rfl,by
          rw [HL.out];simpa [Nat.add_assoc,VF,Ap] using hown2,(hbel.alloc hbel.size _).trans hbel2⟩
        case measure=>simp [intOf];omega
      · obtain rfl:j=K:=ω
        go_wp2
        go_ret
        exact ⟨a',c',by simp [DK,HF.out,AH],by simpa [DK,HF.out,Ek,AH] using hown,hbel⟩
  · have hf':AX n k=false:=by simpa using hf
    clear hf
    go_enter Tryz.func47,Tryz.ntmps47
    go_wp2_with (first
      | (at_builtin;have _t:=t1;refine DN rfl (.tmp 10) (.tmp 11) rfl E8 w.heap.size rfl rfl (Own.nil _ _ _ _) ha (DP xs) ω ω (Nat.le_refl _) ?_;clear t1;intro a1 c1 w1 hown hgrow hbel;simp only [Nat.zero_add,List.nil_append] at hown))
    refine (FL _ _ _).mono ?_
    rintro e w' ⟨rfl,rfl⟩
    clear hgrow ha
    rw [hf']
    have HF:=hid hf';clear hf'
    go_wp2_with fail
    go_ret
    exact ⟨a1,c1,by simp [DK,HF.out],by simpa [DK,HF.out,Ek] using hown,hbel⟩
theorem Lu (a:Option Addr) (n c:Nat) (at_ k:Int) (w:World) (hn:n≤9223372036854775807) (hk:1≤k∧k≤8) :
    Calls Tryz.prog 106 #[.slice a n c,ν at_,ν k] w fun e w'=>e=.returned (.bool (decide (0≤at_)&&decide (at_+k≤n)))∧w=w':=by
  by_cases h0:0≤at_
  · go_enter Tryz.func106,Tryz.ntmps106
    go_wp2
    go_ret
    exact ⟨Bd (by simp [h0];omega),rfl⟩
  · go_enter Tryz.func106,Tryz.ntmps106
    go_wp2
    go_ret
    exact ⟨Bd (by simp;omega),rfl⟩
end
section
def BL:List UInt8→Nat
  | []=>0
  | x::xs=>x.toNat+256*BL xs
theorem Jy (xs:List UInt8):BL xs<256 ^ xs.length:=by
  induction xs with
  | nil=>simp [BL]
  | cons x xs ih=>
    have:=x.toNat_lt
    simp only [BL,List.length_cons,Nat.pow_succ]
    omega
theorem OE (xs ys:List UInt8):BL (xs++ys)=BL xs+256 ^ xs.length*BL ys:=by
  induction xs with
  | nil=>simp [BL]
  | cons x xs ih=>
    simp only [List.cons_append,BL,ih,List.length_cons,Nat.pow_succ,Nat.mul_add]
    rw [Nat.mul_comm (256 ^ xs.length) 256,Nat.mul_assoc];omega
def BD (k:Int):Bool:=decide (k=1∨k=2∨k=4∨k=8)
def Bp (xs:List UInt8) (at_ k:Int):Option Nat:=
  if BD k=true∧0≤at_∧at_+k≤xs.length then
    (if BL ((xs.drop at_.toNat).take k.toNat)≤9223372036854775807 then some (BL ((xs.drop at_.toNat).take k.toNat)) else none)
  else none
theorem Tz (k:Int):AX 0 k=BD k:=by
  unfold AX BD
  repeat' split
  all_goals simp [*]
theorem Jw (n:Int):BitVec.ofInt 64 (wrap64 n)=BitVec.ofInt 64 n:=by
  apply BitVec.eq_of_toNat_eq
  simp only [BitVec.toNat_ofInt]
  congr 1
  unfold wrap64
  omega
theorem QQ (n:Int):wrap64 (n % 18446744073709551616)=wrap64 n:=by unfold wrap64;omega
theorem wrap_i64 (n:Int):IntKind.i64.wrap n=wrap64 n:=by simp only [IntKind.wrap_i64,wrap64]
theorem Vr (i A B:Nat) (hA:A<2 ^ i) (hB:B % 2 ^ i=0):bits .or .i64 (wrap64 A) (wrap64 B)=wrap64 ((A+B:Nat):Int):=by
  unfold bits
  show IntKind.i64.wrap (((BitVec.ofInt 64 (wrap64 A) ||| BitVec.ofInt 64 (wrap64 B)).toNat:Nat):Int)=_
  rw [Jw,Jw,wrap_i64]
  rw [show BitVec.ofInt 64 (A:Int)=BitVec.ofNat 64 A from rfl,show BitVec.ofInt 64 (B:Int)=BitVec.ofNat 64 B from rfl,← BitVec.ofNat_or,Nat.or_comm,nat_join i B A hB hA,Nat.add_comm]
  rw [BitVec.toNat_ofNat,show ((((A+B) % 2 ^ 64:Nat)):Int)=((A+B:Nat):Int) % 18446744073709551616 from ω,QQ]
theorem LV {xs:List UInt8} {A j:Nat} (h:A+j<xs.length):(xs.drop A).take (j+1)=(xs.drop A).take j++[xs[A+j]]:=by
  rw [List.take_succ_eq_append_getElem (by simp;omega)];simp
theorem OP (j:Nat):2 ^ (8*j)=256 ^ j:=by rw [Nat.pow_mul]
theorem Ox {xs:List UInt8} {A j:Nat} (h:A+j<xs.length) :
    bits .or .i64 (wrap64 (BL ((xs.drop A).take j):Nat)) (wrap64 (wrap64 (bAt xs (A+j):Int)*2 ^ (8*j)))=wrap64 (BL ((xs.drop A).take (j+1)):Nat):=by
  have hx:=KW xs (A+j)
  rw [IntWalk.wrap64_in (bAt xs (A+j):Int) ω]
  have e:(bAt xs (A+j):Int)*2 ^ (8*j)=((bAt xs (A+j)*256 ^ j:Nat):Int):=by
    rw [← OP];simp
  have hl:=Jy ((xs.drop A).take j)
  have hlen:((xs.drop A).take j).length=j:=by simp;omega
  rw [hlen] at hl
  rw [e,Vr (8*j) _ _ (by rw [OP];exact hl) (by rw [OP];simp),LV h,OE,hlen]
  simp [BL,Nat.mul_comm,FU h]
theorem RZ (v k:Nat) (hk:BD k=true) (hv:v<256 ^ k):AX (wrap64 (v:Int)) k=decide (v≤9223372036854775807):=by
  simp only [BD,decide_eq_true_eq] at hk
  have hk':k=1∨k=2∨k=4∨k=8:=ω
  rcases hk' with rfl | rfl | rfl | rfl
  · rw [IntWalk.wrap64_in _ ω];simp [AX];omega
  · rw [IntWalk.wrap64_in _ ω];simp [AX];omega
  · rw [IntWalk.wrap64_in _ ω];simp [AX];omega
  · simp [AX,wrap64];omega
theorem Ir {k:Int} (h:BD k=true):1≤k∧k≤8:=by
  simp only [BD,decide_eq_true_eq] at h;omega
def IB (o:Option Nat):Value:=.tuple #[ν ((o.getD 0:Nat):Int),.bool o.isSome]
theorem Vb (a:Option Addr) (c:Nat) (xs:List UInt8) (at_ k:Int) (w:World) (ha:BB w a c xs) (hl:xs.length≤9223372036854775807) :
    Calls Tryz.prog 90 #[.slice a xs.length c,ν at_,ν k] w fun e w'=>e=.returned (IB (Bp xs at_ k))∧w=w':=by
  by_cases hk:BD k=true
  case neg=>
    have hk':BD k=false:=by simpa using hk
    go_enter Tryz.func90,Tryz.ntmps90
    go_wp2_with fail
    refine (Fk _ _ _).mono ?_
    rintro e w' ⟨rfl,rfl⟩
    rw [Tz,hk']
    go_wp2_with fail
    go_ret2
    exact ⟨by simp [IB,Bp,hk'],rfl⟩
  case pos=>
  have hk8:=Ir hk
  by_cases h1:0≤at_∧at_+k≤xs.length
  case neg=>
    have H1:=hid h1
    clear h1
    go_enter Tryz.func90,Tryz.ntmps90
    go_wp2_with fail
    refine (Fk _ _ _).mono ?_
    rintro e w' ⟨rfl,rfl⟩
    rw [Tz,hk]
    have HK:=hid hk;clear hk
    go_wp2_with fail
    refine (Lu _ _ _ _ _ _ hl hk8).mono ?_
    rintro e w' ⟨rfl,rfl⟩
    rw [show (decide (0≤at_)&&decide (at_+k≤xs.length))=false from by simpa using H1.out]
    go_wp2_with fail
    go_ret2
    exact ⟨by simp [IB,Bp,H1.out],rfl⟩
  case pos=>
  have hw:=hid hk
  have hv:=RZ (BL ((xs.drop at_.toNat).take k.toNat)) k.toNat (by rw [Int.toNat_of_nonneg ω];exact hk) (by
    have:=Jy ((xs.drop at_.toNat).take k.toNat)
    rwa [show ((xs.drop at_.toNat).take k.toNat).length=k.toNat from by simp;omega] at this)
  rw [Int.toNat_of_nonneg (ω:0≤k)] at hv
  have HV:=hid hv;clear hv
  go_enter Tryz.func90,Tryz.ntmps90
  go_wp2_with fail
  refine (Fk _ _ _).mono ?_
  rintro e w' ⟨rfl,rfl⟩
  rw [Tz,hk]
  clear hk
  go_wp2_with fail
  refine (Lu _ _ _ _ _ _ hl hk8).mono ?_
  rintro e w' ⟨rfl,rfl⟩
  rw [show (decide (0≤at_)&&decide (at_+k≤xs.length))=true from by simp [h1]]
  go_wp2_with fail
  obtain ⟨K,rfl⟩:=Int.eq_ofNat_of_zero_le (ω:0≤k)
  obtain ⟨A,rfl⟩:=Int.eq_ofNat_of_zero_le (ω:0≤at_)
  obtain ⟨b,off,rfl,hlt,hc⟩:=ha.bytes ω
  clear ha
  simp only [Int.toNat_natCast] at HV
  go_loop [8,9,21] (fun n i j'=>∃ j:Nat,j≤K∧j'=ν j∧n=ν (wrap64 (BL ((xs.drop A).take j):Nat))) (fun _ _ i=>K-(intOf i).toNat)
  case atStart=>exact ⟨0,Nat.zero_le _,rfl,by simp [BL,wrap64]⟩
  case round=>
    obtain ⟨j,hj,rfl,rfl⟩:=hrel
    by_cases hjk:j<K
    · have hcj:=hc (A+j) ω
      have hst:=Ox (xs:=xs) (A:=A) (j:=j) ω
      have HS:=hid hst;clear hst
      generalize wrap64 (BL ((xs.drop A).take j):Nat)=q at *
      generalize bAt xs (A+j)=x at *
      clear hc
      go_wp2
      go_round
      case rel=>exact ⟨j+1,ω,by go_num,by rw [HS.out]⟩
      case measure=>simp [intOf];omega
    · obtain rfl:j=K:=ω
      clear hc
      go_wp2_with fail
      refine (Fk _ _ _).mono ?_
      rintro e w' ⟨rfl,rfl⟩
      rw [HV.out]
      by_cases hbig:BL ((xs.drop A).take j)≤9223372036854775807
      · have hww:wrap64 (BL ((xs.drop A).take j):Nat)=(BL ((xs.drop A).take j):Nat):=IntWalk.wrap64_in _ ω
        rw [decide_eq_true hbig]
        rw [hww]
        have e:Bp xs A j=some (BL ((xs.drop A).take j)):=by simp [Bp,hw.out,hbig];omega
        have E:=hid e;clear e
        clear hww
        go_wp2
        go_ret2
        exact ⟨by simp [IB,E.out],rfl⟩
      · rw [decide_eq_false hbig]
        have e:Bp xs A j=none:=by simp [Bp,hbig]
        have E:=hid e;clear e
        go_wp2
        go_ret2
        exact ⟨by simp [IB,E.out],rfl⟩
end
section
theorem Nm (xs:List UInt8) (m:Nat):BL (xs.drop m)≤BL xs:=by
  induction xs generalizing m with
  | nil=>simp
  | cons x xs ih=>
    cases m with
    | zero=>simp
    | succ m=>have:=ih m;simp only [List.drop_succ_cons,BL];omega
theorem Sk {xs:List UInt8} {m:Nat} (h:m<xs.length):BL (xs.drop m)=bAt xs m+256*BL (xs.drop (m+1)):=by
  rw [List.drop_eq_getElem_cons h,FU h];rfl
theorem OF {xs:List UInt8} (h:xs.length=8):BL xs≤9223372036854775807↔bAt xs 7<128:=by
  match xs,h with
  | [a,b,c,d,e,f,g,i],_=>
    have:=a.toNat_lt;have:=b.toNat_lt;have:=c.toNat_lt;have:=d.toNat_lt
    have:=e.toNat_lt;have:=f.toNat_lt;have:=g.toNat_lt;have:=i.toNat_lt
    simp [BL,bAt];omega
theorem Qw {xs:List UInt8} (h:xs.length≤4):BL xs≤9223372036854775807:=by
  have h1:=Jy xs
  have h2:256 ^ xs.length≤256 ^ 4:=Nat.pow_le_pow_right ω h
  omega
theorem FV (xs:List UInt8) {A K m:Nat} (h:m<K):bAt ((xs.drop A).take K) m=bAt xs (A+m):=by
  simp [bAt,h]
theorem Qf (a:Option Addr) (c:Nat) (xs:List UInt8) (at_ k:Int) (w:World) (ha:BB w a c xs) (hl:xs.length≤9223372036854775807) (hk9:-9223372036854775808≤k) :
    Calls Tryz.prog 46 #[.slice a xs.length c,ν at_,ν k] w fun e w'=>e=.returned (IB (Bp xs at_ k))∧w=w':=by
  by_cases hk:k=1∨k=2∨k=4∨k=8
  case neg=>
    have b1:(k != 1)=true:=by simp;omega
    have b2:(k != 2)=true:=by simp;omega
    have b4:(k != 4)=true:=by simp;omega
    have b8:(k != 8)=true:=by simp;omega
    have hk':=hid hk;clear hk
    go_enter Tryz.func46,Tryz.ntmps46
    go_wp2
    go_ret2
    exact ⟨by simp [IB,Bp,BD,hk'.out],rfl⟩
  case pos=>
  by_cases h1:0≤at_∧at_+k≤xs.length
  case neg=>
    have H1:=hid h1
    have hw:BD k=true:=by simp [BD,hk]
    have E:Hid (Bp xs at_ k=none):=by show _=_;simp only [Bp];rw [if_neg (by intro h;exact h1 h.2)]
    clear hw
    clear H1
    rcases hk with rfl | rfl | rfl | rfl
    all_goals
      by_cases h0:at_<0
      · clear h1
        go_enter Tryz.func46,Tryz.ntmps46
        go_wp2
        go_ret2
        exact ⟨by simp [IB,E.out],rfl⟩
      · by_cases h2:(xs.length:Int)<at_
        · clear h1
          go_enter Tryz.func46,Tryz.ntmps46
          go_wp2
          go_ret2
          exact ⟨by simp [IB,E.out],rfl⟩
        · have h3:(xs.length:Int)-at_<8:=ω
          have h4:at_≤xs.length:=ω
          have h5:0≤at_:=ω
          first
            | (have h6:(xs.length:Int)-at_<1:=ω
               clear h1 h0 h2 h3
               go_enter Tryz.func46,Tryz.ntmps46
               go_wp2
               go_ret2
               exact ⟨by simp [IB,E.out],rfl⟩)
            | (have h6:(xs.length:Int)-at_<2:=ω
               clear h1 h0 h2 h3
               go_enter Tryz.func46,Tryz.ntmps46
               go_wp2
               go_ret2
               exact ⟨by simp [IB,E.out],rfl⟩)
            | (have h6:(xs.length:Int)-at_<4:=ω
               clear h1 h0 h2 h3
               go_enter Tryz.func46,Tryz.ntmps46
               go_wp2
               go_ret2
               exact ⟨by simp [IB,E.out],rfl⟩)
            | (have h6:(xs.length:Int)-at_<8:=ω
               clear h1 h0 h2 h3
               go_enter Tryz.func46,Tryz.ntmps46
               go_wp2
               go_ret2
               exact ⟨by simp [IB,E.out],rfl⟩)
  case pos=>
  obtain ⟨A,rfl⟩:=Int.eq_ofNat_of_zero_le h1.1
  obtain ⟨K,hK⟩:=Int.eq_ofNat_of_zero_le (ω:0≤k)
  obtain ⟨b,off,rfl,hlt,hc⟩:=ha.bytes ω
  clear ha
  have hlen:((xs.drop A).take K).length=K:=by simp;omega
  have hF:Bp xs A k=if BL ((xs.drop A).take K)≤9223372036854775807 then some (BL ((xs.drop A).take K)) else none:=by
    unfold Bp;rw [if_pos ⟨by simp only [BD,decide_eq_true_eq];exact hk,h1⟩,hK];rfl
  have HF:=hid hF;clear hF
  by_cases hbig:BL ((xs.drop A).take K)≤9223372036854775807
  case neg=>
    have h8:K=8:=by
      have:¬ K≤4:=fun h=>hbig (Qw (xs:=(xs.drop A).take K) ω)
      omega
    subst h8
    have hk8:k=8:=ω
    subst hk8
    have h7:¬ bAt ((xs.drop A).take 8) 7<128:=fun h=>hbig ((OF (xs:=(xs.drop A).take 8) hlen).2 h)
    rw [FV _ ω] at h7
    have hc7:=hc (A+7) ω
    have h9:(128:Int)≤(bAt xs (A+7):Int):=ω
    have HB:=hid hbig
    clear hc h7 hbig hlen hK hk
    go_enter Tryz.func46,Tryz.ntmps46
    go_wp2
    go_ret2
    exact ⟨by rw [HF.out,if_neg HB.out];rfl,rfl⟩
  case pos=>
    have hF2:Hid (Bp xs A k=some (BL ((xs.drop A).take K))):=by show _=_;rw [HF.out,if_pos hbig]
    clear HF
    have hdl:=fun m=>Nat.le_trans (Nm ((xs.drop A).take K) m) hbig
    have hst:∀ m,m<K→BL (((xs.drop A).take K).drop m)=bAt xs (A+m)+256*BL (((xs.drop A).take K).drop (m+1)):=by
      intro m h;rw [Sk (by rw [hlen];exact h),FV _ h]
    have htop:k=8→(bAt xs (A+7):Int)<128:=by
      rintro rfl
      have h8:K=8:=ω
      subst h8
      have:=(OF (xs:=(xs.drop A).take 8) hlen).1 hbig
      rw [FV _ ω] at this;omega
    have hz:((xs.drop A).take K).drop K=[]:=List.drop_eq_nil_of_le (by rw [hlen];exact Nat.le_refl _)
    have hc7:k=8→w.cell? ⟨b,off+(A+7),none⟩=some (.int .u8 (bAt xs (A+7):Int)):=fun h=>hc (A+7) ω
    have HC:=hid hc
    have hAl:A+K≤xs.length:=ω
    have hk8:K≤8:=ω
    clear hbig hc hlen
    generalize (xs.drop A).take K=ds at *
    have HZ:=hid hz;have HT:=hid hst;have HD:=hid hdl;clear hz hst hdl
    have HK:=hid hK
    clear hK
    rcases hk with rfl | rfl | rfl | rfl
    all_goals
      first | (replace htop:=htop rfl;replace hc7:=hc7 rfl;generalize bAt xs (A+7)=x7 at htop hc7;have hb7:decide ((128:Int)≤(x7:Int))=false:=(by simp;omega);clear htop) | clear htop hc7
      go_enter Tryz.func46,Tryz.ntmps46
      go_wp2_with fail
      go_loop [8,9] (fun n i=>∃ m:Nat,m≤K∧i=ν ((m:Int)-1)∧n=ν (BL (ds.drop m):Nat)) (fun _ i=>(intOf i+1).toNat)
      case atStart=>exact ⟨K,Nat.le_refl _,by rw [← HK.out];rfl,by rw [HZ.out];rfl⟩
      case round=>
        obtain ⟨m,hm,rfl,rfl⟩:=hrel
        cases m with
        | zero=>
          go_wp2
          go_ret2
          exact ⟨by rw [hF2.out];simp [IB],rfl⟩
        | succ m=>
          have hcell:=HC.out (A+m) ω
          have hs:=HT.out m ω
          have hd:=HD.out m
          have hb:=KW xs (A+m)
          have HS:=hid hs
          have hbound:((BL (ds.drop (m+1)):Nat):Int)*256+(bAt xs (A+m):Int)≤9223372036854775807:=ω
          clear hs
          have ei:((m+1:Nat):Int)-1=m:=ω
          rw [ei]
          have hm':m+1≤8:=ω
          generalize bAt xs (A+m)=x at *
          generalize BL (ds.drop (m+1))=q at *
          clear ei
          go_wp2
          go_round
          case rel=>exact ⟨m,ω,by go_num,by rw [HS.out];go_num⟩
          case measure=>simp [intOf]<;>omega
end
section
theorem SM (g off m c n:Nat) (L:List Value) (w:World) (hb:Blk w g 5 L) (hm:off+m≤L.length) (hm8:m≤8) (hn:n≤9223372036854775807) (hc:L.length≤9223372036854775807) :
    Calls Tryz.prog 72 #[.slice (some ⟨g,off,none⟩) m c,ν n] w fun e w'=>e=.returned (.tuple #[])∧Blk w' g 5 (splice L off ((le m n).map Ap))∧w.grownBy w' (some g)∧w'.heap.size=w.heap.size:=by
  go_enter Tryz.func72,Tryz.ntmps72
  go_wp2_with fail
  go_loopw [4,7] (fun i j' wr=>∃ j:Nat,j≤m∧j'=ν j∧Blk wr g 5 (splice L off ((le j n).map Ap))∧w.grownBy wr (some g)∧wr.heap.size=w.heap.size) (fun _ i _=>m-(intOf i).toNat)
  case atStart=>exact ⟨0,Nat.zero_le _,rfl,by simpa [le,splice] using hb,⟨rfl,rfl,rfl,Nat.le_refl _,fun _ _ _=>rfl⟩,rfl⟩
  case round=>
    obtain ⟨j,hj,rfl,hblk,hgrow,hsz⟩:=hrel
    by_cases hlt:j<m
    · have hl:((le j n).map Ap).length=j:=by simp [AH]
      have hls:=length_splice L off ((le j n).map Ap) ω
      obtain ⟨old,hcell⟩:=hblk.someCell (i:=off+j) ω
      have hfr:=hblk.frozen (off+j)
      have hset:=hblk.set (off+j) (Ap (UInt8.ofNat (n / 256 ^ j)))
      rw [show off+j=off+((le j n).map Ap).length from by rw [hl],He _ _ _ _ ω,hl] at hset
      rw [show (le j n).map Ap++[Ap (UInt8.ofNat (n / 256 ^ j))]=(le (j+1) n).map Ap from by rw [Nj];simp] at hset
      have hgs:w.grownBy (wr.setCell ⟨g,off+j,none⟩ (Ap (UInt8.ofNat (n / 256 ^ j)))) (some g):=
        ⟨hgrow.os,hgrow.tape,hgrow.output,by simp [World.setCell];exact hgrow.size,fun k hk hne=>by
          rw [Below.heap_setCell _ _ _ _ (by rintro rfl;exact hne rfl)];exact hgrow.block k hk hne⟩
      have hss:(wr.setCell ⟨g,off+j,none⟩ (Ap (UInt8.ofNat (n / 256 ^ j)))).heap.size=w.heap.size:=by simp [World.setCell];exact hsz
      have hby:Ap (UInt8.ofNat (n / 256 ^ j))=.int .u8 ((n:Int) / 2 ^ (8*j) % 256):=by
        have e:((n:Int) / 2 ^ (8*j))=((n / 256 ^ j:Nat):Int):=by rw [← OP];simp
        rw [e];simp [Ap]
      rw [hby] at hset hgs hss
      have H:=hid (And.intro hset (And.intro hgs hss))
      clear hset hgs hss hls hl hblk hgrow hby
      go_wp2
      go_roundw
      case rel=>exact ⟨j+1,ω,by go_num,H.out.1,H.out.2.1,H.out.2.2⟩
      case measure=>simp [intOf];omega
    · obtain rfl:j=m:=ω
      go_wp2
      go_end0
      exact ⟨rfl,hblk,hgrow,hsz⟩
theorem Xq:(Tryz.prog.info? 5).map (·.size)=some 1:=κ
theorem Re:(Tryz.prog.info? 5).map (fun i=>(i.zero,i.size,i.bytes))=some (some (.int .u8 0),1,1):=κ
theorem Ug (xs:List UInt8) (N K:Nat) (Z:List Value) (hZ:Z.length=xs.length+K) :
    splice (splice Z 0 (xs.map Ap)) xs.length ((le K N).map Ap)=(xs++le K N).map Ap:=by
  have h1:splice Z 0 (xs.map Ap)=xs.map Ap++Z.drop xs.length:=by simp [splice]
  rw [h1]
  simp only [splice,List.length_map,AH]
  rw [List.take_append_of_le_length (by simp),List.take_of_length_le (by simp),List.drop_of_length_le (by simp;omega)]
  simp
theorem Rk (a:Option Addr) (c:Nat) (xs:List UInt8) (n k:Int) (w:World) (ha:BB w a c xs) (hl:xs.length≤70368744177664) (hn9:n≤9223372036854775807) :
    Calls Tryz.prog 52 #[.slice a xs.length c,ν n,ν k] w (Ry w (DK xs n k)):=by
  have t1:True:=trivial
  by_cases hf:AX n k=true
  · have hk:=Hw hf
    obtain ⟨N,rfl⟩:=Int.eq_ofNat_of_zero_le hk.1
    obtain ⟨K,rfl⟩:=Int.eq_ofNat_of_zero_le (ω:0≤k)
    go_enter Tryz.func52,Tryz.ntmps52
    go_wp2_with fail
    refine (Fk _ _ _).mono ?_
    rintro e w' ⟨rfl,rfl⟩
    rw [hf]
    have HF:=hid hf;clear hf
    go_wp2_with (first
      | (at_make;refine Gy rfl (.tmp 17) (.tmp 17) rfl υ60 Re rfl (n:=xs.length+K) rfl rfl ω ω ω ω ?_;intro w1 hblk hbel)
      | (with_reducible refine UI rfl (.tmp 20) (.tmp 21) rfl υ60 Xq rfl rfl hblk (ha.mono hbel) (DP xs) (by simp) ?_;intro w2 hblk2 hbel2))
    go_goals
    rw [show List.take (min xs.length (xs.length+K)) (List.map Ap xs)=xs.map Ap from List.take_of_length_le (by simp)] at hblk2
    refine (SM w.heap.size xs.length K K N _ w2 hblk2 (by rw [length_splice _ _ _ (by simp)];simp) ω ω (by rw [length_splice _ _ _ (by simp)];simp;omega)).mono ?_
    rintro e w3 ⟨rfl,hblk3,hgrow3,hsz3⟩
    go_wp2_with fail
    go_ret
    rw [Ug xs N K _ (by simp)] at hblk3
    refine ⟨some ⟨w.heap.size,0,none⟩,xs.length+K,by simp [DK,HF.out,AH],?_,(hbel.trans hbel2).grown hgrow3 (by have:=hbel.size;have:=hbel2.size;omega) (fun k hk=>by cases hk;exact Nat.le_refl _)⟩
    have hown:=Own.of_blk (B:=w.heap.size) (sz:=1) (n:=xs.length+K) (c:=xs.length+K) hblk3 (Nat.le_refl _) (Nat.le_refl _) (by unfold maxLen;omega) (by simp [AH])
    rw [List.take_of_length_le (by simp [AH])] at hown
    simpa [DK,HF.out,Ek,AH] using hown
  · have hf':AX n k=false:=by simpa using hf
    clear hf
    go_enter Tryz.func52,Tryz.ntmps52
    go_wp2_with fail
    refine (Fk _ _ _).mono ?_
    rintro e w' ⟨rfl,rfl⟩
    rw [hf']
    have HF:=hid hf';clear hf'
    go_wp2_with (first
      | (at_builtin;have _t:=t1;refine DN rfl (.const (.slice none 0 0)) (.tmp 12) rfl E8 w.heap.size rfl rfl (Own.nil _ _ _ _) ha (DP xs) ω ω (Nat.le_refl _) ?_;clear t1;intro a1 c1 w1 hown hgrow hbel;simp only [Nat.zero_add,List.nil_append] at hown))
    go_ret
    exact ⟨a1,c1,by simp [DK,HF.out],by simpa [DK,HF.out,Ek] using hown,hbel⟩
end
section
def BQ (X:List UInt8):Int:=match Bp X 0 8 with
  | some n=>n
  | none=>0
theorem NY {xs:List UInt8} (hx:xs.length=8):BQ xs=max (wrap64 (BL (xs.take 8):Nat)) 0:=by
  have hl:=Jy (xs.take 8)
  have hlen:(xs.take 8).length=8:=by simp [hx]
  rw [hlen] at hl
  unfold BQ
  by_cases h:BL (xs.take 8)≤9223372036854775807
  · have e:Bp xs 0 8=some (BL (xs.take 8)):=by
      simp only [Bp,show BD 8=true from rfl,true_and]
      simp [hx,h]
    rw [e,IntWalk.wrap64_in _ ω]
    show ((BL _:Nat):Int)=_
    omega
  · have e:Bp xs 0 8=none:=by simp [Bp];intro _ _;omega
    rw [e]
    show (0:Int)=_
    unfold wrap64
    omega
theorem Qo (a:Option Addr) (c:Nat) (xs:List UInt8) (w:World) (ha:BB w a c xs) (hx:xs.length=8) :
    Calls Tryz.prog 81 #[.slice a xs.length c] w fun e w'=>e=.returned (ν (BQ xs))∧w=w':=by
  obtain ⟨b,off,rfl,hlt,hc⟩:=ha.bytes ω
  clear ha
  rw [NY hx]
  have HX:=hid hx
  rw [hx]
  go_enter Tryz.func81,Tryz.ntmps81
  go_wp2_with fail
  go_loop [3,4,5,8] (fun n i x j'=>∃ j:Nat,j≤8∧j'=ν j∧n=ν (wrap64 (BL (xs.take j):Nat))) (fun _ _ _ i=>8-(intOf i).toNat)
  case atStart=>exact ⟨0,Nat.zero_le _,rfl,by simp [BL,wrap64]⟩
  case round=>
    obtain ⟨j,hj,rfl,rfl⟩:=hrel
    by_cases hjk:j<8
    · have hcj:=hc (0+j) ω
      have hst:=Ox (xs:=xs) (A:=0) (j:=j) ω
      rw [List.drop_zero] at hst
      have HS:=hid hst;clear hst
      generalize wrap64 (BL (xs.take j):Nat)=q at *
      generalize bAt xs (0+j)=x at *
      rw [Nat.zero_add] at hcj
      clear hc
      go_wp2
      go_round
      case rel=>exact ⟨j+1,ω,by go_num,by rw [HS.out]⟩
      case measure=>simp [intOf];omega
    · obtain rfl:j=8:=ω
      clear hc
      obtain ⟨q,hq⟩:∃ q,wrap64 (BL (xs.take 8):Nat)=q:=⟨_,rfl⟩
      rw [hq]
      have HQ:=hid hq;clear hq
      go_wp2
      go_ret
      exact ⟨by rw [HQ.out];rfl,rfl⟩
theorem Ta (n:Nat) (w:World) (hn:n≤9223372036854775807) :
    Calls Tryz.prog 82 #[ν n] w fun e w'=>e=.returned (.slice (some ⟨w.heap.size,0,none⟩) 8 8)∧Blk w' w.heap.size 5 ((le 8 n).map Ap)∧Below w.heap.size w w':=by
  have t1:True:=trivial
  go_enter Tryz.func82,Tryz.ntmps82
  go_wp2_with (at_make;refine Gy rfl (.const (ν 8)) (.const (ν 8)) rfl υ60 Re rfl (n:=8) rfl rfl ω ω ω ω ?_;intro w1 hblk hbel)
  obtain ⟨L,hL⟩:∃ L,L=List.replicate 8 (Value.int .u8 0):=⟨_,rfl⟩
  rw [← hL] at hblk
  have hLl:L.length=8:=by rw [hL];rfl
  obtain ⟨g,hg⟩:∃ g,g=w.heap.size:=⟨_,rfl⟩
  rw [← hg] at hblk ⊢
  have HL:=hid hLl;have HB:=hid hbel;have HG:=hid hg
  clear hL hbel hg
  go_loopw [4,8] (fun i j' wr=>∃ j:Nat,j≤8∧j'=ν j∧Blk wr g 5 (splice L 0 ((le j n).map Ap))∧w1.grownBy wr (some g)∧wr.heap.size=w1.heap.size) (fun _ i _=>8-(intOf i).toNat)
  case atStart=>exact ⟨0,Nat.zero_le _,rfl,by simpa [le,splice] using hblk,⟨rfl,rfl,rfl,Nat.le_refl _,fun _ _ _=>rfl⟩,rfl⟩
  case round=>
    obtain ⟨j,hj,rfl,hblk,hgrow,hsz⟩:=hrel
    have hLl:=HL.out
    by_cases hlt:j<8
    · have hl:((le j n).map Ap).length=j:=by simp [AH]
      have hls:=length_splice L 0 ((le j n).map Ap) ω
      obtain ⟨old,hcell⟩:=hblk.someCell (i:=0+j) ω
      have hfr:=hblk.frozen (0+j)
      have hset:=hblk.set (0+j) (Ap (UInt8.ofNat (n / 256 ^ j)))
      rw [show 0+j=0+((le j n).map Ap).length from by rw [hl],He _ _ _ _ ω,hl] at hset
      rw [show (le j n).map Ap++[Ap (UInt8.ofNat (n / 256 ^ j))]=(le (j+1) n).map Ap from by rw [Nj];simp] at hset
      have hgs:w1.grownBy (wr.setCell ⟨g,0+j,none⟩ (Ap (UInt8.ofNat (n / 256 ^ j)))) (some g):=
        ⟨hgrow.os,hgrow.tape,hgrow.output,by simp [World.setCell];exact hgrow.size,fun k hk hne=>by
          rw [Below.heap_setCell _ _ _ _ (by rintro rfl;exact hne rfl)];exact hgrow.block k hk hne⟩
      have hss:(wr.setCell ⟨g,0+j,none⟩ (Ap (UInt8.ofNat (n / 256 ^ j)))).heap.size=w1.heap.size:=by simp [World.setCell];exact hsz
      have hby:Ap (UInt8.ofNat (n / 256 ^ j))=.int .u8 ((n:Int) / 2 ^ (8*j) % 256):=by
        have e:((n:Int) / 2 ^ (8*j))=((n / 256 ^ j:Nat):Int):=by rw [← OP];simp
        rw [e];simp [Ap]
      rw [hby] at hset hgs hss
      rw [Nat.zero_add] at hset hgs hss hcell hfr
      have H:=hid (And.intro hset (And.intro hgs hss))
      clear hset hgs hss hls hl hblk hgrow hby
      go_wp2
      go_roundw
      case rel=>exact ⟨j+1,ω,by go_num,H.out.1,H.out.2.1,H.out.2.2⟩
      case measure=>simp [intOf];omega
    · obtain rfl:j=8:=ω
      go_wp2
      go_ret
      refine ⟨by rw [← HG.out];rfl,?_,?_⟩
      · rw [show splice L 0 ((le 8 n).map Ap)=(le 8 n).map Ap from by unfold splice;rw [List.take_zero,List.drop_of_length_le (by simp [AH,hLl])];simp] at hblk
        rw [← HG.out];exact hblk
      · exact HB.out.grown hgrow (by have:=HB.out.size;omega) (fun k hk=>by cases hk;exact Nat.le_of_eq HG.out.symm)
end
section
structure PkM where
  I:Nat→Int
  S:Nat→List UInt8
  N:List (List UInt8)
inductive Fld where
  | num (w o:Nat) (lo hi:Int)
  | text (w most o:Nat)
  | names
def BJ:Int:=9223372036854775807
def Ah:List Fld:=[.num 1 0 1 5,.num 1 1 1 8,.num 4 2 0 BJ,.num 8 3 0 BJ]
def Al (k:Int):List Fld:=
  if k=1 then [.num 1 4 1 4,.num 4 5 0 BJ,.num 2 6 0 BJ,.text 2 128 7,.num 8 8 0 BJ,.num 8 9 0 BJ]
  else if k=2 then [.num 1 4 1 4,.num 1 19 0 BJ,.text 2 128 7,.num 8 8 0 BJ]
  else if k=3 then [.num 1 4 0 BJ,.num 1 18 0 BJ,.text 1 100 11,.text 1 100 12,.num 1 13 0 BJ,.num 4 16 0 BJ]
  else if k=4 then [.num 1 4 0 BJ,.num 1 19 0 BJ,.num 1 18 0 BJ,.num 8 27 0 BJ,.num 4 5 0 BJ,.num 1 24 0 BJ,.num 1 25 0 BJ,.num 2 26 0 BJ,.num 1 28 0 BJ,.num 1 29 0 BJ,.num 2 30 0 BJ,.num 1 31 0 BJ,.num 1 32 0 BJ,.num 1 33 0 BJ,.num 1 34 0 BJ,.names]
  else [.num 1 18 0 BJ]
def XC (k:Int):Prop:=1≤k∧k≤5
def Em (w:Nat) (lo hi v:Int):Option (List UInt8):=if AX v w=true∧lo≤v∧v≤hi then some (le w v.toNat) else none
def Fb (w most:Nat) (s:List UInt8):Option (List UInt8):=if s.length≤most then some (le w s.length++s) else none
def Ej:List (List UInt8)→Option (List UInt8)
  | []=>some []
  | s::l=>(Fb 1 12 s).bind fun a=>(Ej l).map fun b=>a++b
def Fy (P:PkM):Fld→Option (List UInt8)
  | .num w o lo hi=>Em w lo hi (P.I o)
  | .text w most o=>Fb w most (P.S o)
  | .names=>if P.N.length≤16 then (Ej P.N).map fun b=>le 1 P.N.length++b else none
def encL (P:PkM):List Fld→Option (List UInt8)
  | []=>some []
  | f::fs=>(Fy P f).bind fun a=>(encL P fs).map fun b=>a++b
def Ck (Q:PkM) (o:Nat) (v:Int):PkM:={ Q with I:=fun k=>if k=o then v else Q.I k }
def Pn (Q:PkM) (o:Nat) (s:List UInt8):PkM:={ Q with S:=fun k=>if k=o then s else Q.S k }
def Xp (P Q:PkM):Fld→PkM
  | .num _ o _ _=>Ck Q o (P.I o)
  | .text _ _ o=>Pn Q o (P.S o)
  | .names=>{ Q with N:=P.N }
def Au (P:PkM):PkM→List Fld→PkM
  | Q,[]=>Q
  | Q,f::fs=>Au P (Xp P Q f) fs
def RL (w:Nat) (lo hi:Int) (xs:List UInt8):Option (Int×List UInt8):=
  match Bp xs 0 w with
  | some v=>if lo≤(v:Int)∧(v:Int)≤hi then some (v,xs.drop w) else none
  | none=>none
def Md (w most:Nat) (xs:List UInt8):Option (List UInt8×List UInt8):=
  match Bp xs 0 w with
  | some n=>if n≤most∧w+n≤xs.length then some ((xs.drop w).take n,xs.drop (w+n)) else none
  | none=>none
def Mo:Nat→List UInt8→Option (List (List UInt8)×List UInt8)
  | 0,xs=>some ([],xs)
  | n+1,xs=>(Md 1 12 xs).bind fun a=>(Mo n a.2).map fun b=>(a.1::b.1,b.2)
def Of (Q:PkM) (xs:List UInt8):Fld→Option (PkM×List UInt8)
  | .num w o lo hi=>(RL w lo hi xs).map fun a=>(Ck Q o a.1,a.2)
  | .text w most o=>(Md w most xs).map fun a=>(Pn Q o a.1,a.2)
  | .names=>match Bp xs 0 1 with
    | some n=>if n≤16 then (Mo n (xs.drop 1)).map fun a=>({ Q with N:=a.1 },a.2) else none
    | none=>none
def PH (Q:PkM) (xs:List UInt8):List Fld→Option (PkM×List UInt8)
  | []=>some (Q,xs)
  | f::fs=>(Of Q xs f).bind fun a=>PH a.1 a.2 fs
theorem Ra {v:Int} {w:Nat} (h:AX v w=true) (h9:v≤BJ):BD w=true∧0≤v∧v.toNat<256 ^ w:=by
  have h1:=Hw h
  unfold BJ at h9
  rcases (ω:w=1∨w=2∨w=4∨w=8∨(w≠1∧w≠2∧w≠4∧w≠8)) with rfl | rfl | rfl | rfl | ⟨k1,k2,k4,k8⟩
  · simp [AX] at h;exact ⟨rfl,h1.1,ω⟩
  · simp [AX] at h;exact ⟨rfl,h1.1,ω⟩
  · simp [AX] at h;exact ⟨rfl,h1.1,ω⟩
  · exact ⟨rfl,h1.1,ω⟩
  · rw [IY v ω ω ω ω] at h;cases h
theorem KJ {v w:Nat} (hw:BD w=true) (hv:v<256 ^ w):AX v w=true:=by
  have hw':=of_decide_eq_true hw
  rcases (ω:w=1∨w=2∨w=4∨w=8) with rfl | rfl | rfl | rfl<;>simp [AX]<;>omega
theorem TN (k n:Nat) (h:n<256 ^ k):BL (le k n)=n:=by
  induction k generalizing n with
  | zero=>simp [le,BL] at *;omega
  | succ k ih=>
    have h2:n / 256<256 ^ k:=by
      rw [Nat.div_lt_iff_lt_mul ω];rwa [Nat.pow_succ] at h
    simp [le,BL,ih _ h2]
    omega
theorem Ja {k v:Nat} (r:List UInt8) (hk:BD k=true) (hv:v<256 ^ k) (h9:(v:Int)≤BJ):Bp (le k v++r) 0 k=some v:=by
  unfold BJ at h9
  have hd:((le k v++r).drop (0:Int).toNat).take (k:Int).toNat=le k v:=by
    simp only [Int.toNat_natCast,Int.toNat_zero,List.drop_zero]
    rw [List.take_left' (AH k v)]
  unfold Bp
  rw [if_pos ⟨hk,ω,by simp [AH];omega⟩,hd,TN k v hv,if_pos ω]
theorem Ti {w:Nat} {lo hi v:Int} {e:List UInt8} (h:Em w lo hi v=some e) (h9:v≤BJ) (r:List UInt8):RL w lo hi (e++r)=some (v,r):=by
  unfold Em at h
  split at h
  · next hc=>
    cases h
    obtain ⟨h1,h2,h3⟩:=Ra hc.1 h9
    unfold RL
    rw [Ja r h1 h3 ω]
    have ev:((v.toNat:Nat):Int)=v:=ω
    simp only [ev,hc.2,and_self,if_true]
    rw [List.drop_left' (AH _ _)]
  · cases h
theorem Oh {w most:Nat} {s e:List UInt8} (hw:BD w=true) (hm:most<256 ^ w) (hm9:(most:Int)≤BJ) (h:Fb w most s=some e) (r:List UInt8):Md w most (e++r)=some (s,r):=by
  unfold Fb at h
  split at h
  · next hl=>
    cases h
    unfold Md
    rw [List.append_assoc,Ja _ hw (Nat.lt_of_le_of_lt hl hm) ω]
    simp only [hl,true_and]
    rw [if_pos (by simp [AH])]
    have hd:(le w s.length++(s++r)).drop w=s++r:=List.drop_left' (AH _ _)
    rw [← List.drop_drop,hd,List.take_left,List.drop_left]
  · cases h
theorem RO {l:List (List UInt8)} {e:List UInt8} (h:Ej l=some e) (r:List UInt8):Mo l.length (e++r)=some (l,r):=by
  induction l generalizing e with
  | nil=>cases h;rfl
  | cons s l ih=>
    unfold Ej at h
    cases h1:Fb 1 12 s with
    | none=>rw [h1] at h;cases h
    | some a=>
      cases h2:Ej l with
      | none=>rw [h1,h2] at h;cases h
      | some b=>
        rw [h1,h2] at h
        simp only [Option.bind_some,Option.map_some,Option.some.injEq] at h
        subst h
        show (Md 1 12 ((a++b)++r)).bind _=_
        rw [List.append_assoc,Oh rfl (by decide) (by decide) h1,Option.bind_some,ih h2]
        rfl
def okF:Fld→Prop
  | .num w _ _ _=>BD w=true
  | .text w most _=>BD w=true∧most<256 ^ w∧(most:Int)≤BJ
  | .names=>True
def XJ:Fld→Nat
  | .num _ o _ _=>o
  | .text _ _ o=>o
  | .names=>23
def Be (P:PkM):Prop:=∀ o,P.I o≤BJ
theorem Th {P Q:PkM} {f:Fld} {e:List UInt8} (hP:Be P) (hf:okF f) (h:Fy P f=some e) (r:List UInt8):Of Q (e++r) f=some (Xp P Q f,r):=by
  cases f with
  | num w o lo hi=>show (RL w lo hi (e++r)).map _=_;rw [Ti h (hP o)];rfl
  | text w most o=>show (Md w most (e++r)).map _=_;rw [Oh hf.1 hf.2.1 hf.2.2 h];rfl
  | names=>
    have h':(if P.N.length≤16 then (Ej P.N).map fun b=>le 1 P.N.length++b else none)=some e:=h
    clear h
    by_cases hl:P.N.length≤16
    · rw [if_pos hl] at h'
      cases h1:Ej P.N with
      | none=>rw [h1] at h';cases h'
      | some b=>
        rw [h1,Option.map_some] at h'
        cases h'
        unfold Of
        simp only
        have hg:Bp (le 1 P.N.length++b++r) 0 1=some P.N.length:=by
          rw [List.append_assoc];exact Ja (k:=1) _ rfl ω (by unfold BJ;omega)
        rw [hg]
        simp only [hl,if_true]
        rw [List.append_assoc,List.drop_left' (AH _ _),RO h1];rfl
    · rw [if_neg hl] at h';cases h'
theorem Og {P Q:PkM} {fs:List Fld} {e:List UInt8} (hP:Be P) (hf:∀ f∈fs,okF f) (h:encL P fs=some e) (r:List UInt8):PH Q (e++r) fs=some (Au P Q fs,r):=by
  induction fs generalizing Q e with
  | nil=>cases h;rfl
  | cons f fs ih=>
    unfold encL at h
    cases h1:Fy P f with
    | none=>rw [h1] at h;cases h
    | some a=>
      cases h2:encL P fs with
      | none=>rw [h1,h2] at h;cases h
      | some b=>
        rw [h1,h2] at h
        simp only [Option.bind_some,Option.map_some,Option.some.injEq] at h
        subst h
        unfold PH
        rw [List.append_assoc,Th hP (hf f (List.mem_cons_self ..)) h1,Option.bind_some]
        exact ih (fun g hg=>hf g (List.mem_cons_of_mem _ hg)) h2
theorem Om (k:Int):∀ f∈Al k,okF f:=by
  intro f hf
  unfold Al at hf
  split at hf
  · simp only [List.mem_cons,List.not_mem_nil,or_false] at hf
    rcases hf with rfl | rfl | rfl | rfl | rfl | rfl<;>first | exact rfl | exact ⟨rfl,by decide,by decide⟩
  split at hf
  · simp only [List.mem_cons,List.not_mem_nil,or_false] at hf
    rcases hf with rfl | rfl | rfl | rfl<;>first | exact rfl | exact ⟨rfl,by decide,by decide⟩
  split at hf
  · simp only [List.mem_cons,List.not_mem_nil,or_false] at hf
    rcases hf with rfl | rfl | rfl | rfl | rfl | rfl<;>first | exact rfl | exact ⟨rfl,by decide,by decide⟩
  split at hf
  · simp only [List.mem_cons,List.not_mem_nil,or_false] at hf
    rcases hf with rfl | rfl | rfl | rfl | rfl | rfl | rfl | rfl | rfl | rfl | rfl | rfl | rfl | rfl | rfl | rfl<;>first | exact rfl | exact trivial
  · simp only [List.mem_cons,List.not_mem_nil,or_false] at hf
    rcases hf with rfl;exact rfl
theorem Ln:∀ f∈Ah,okF f:=by
  intro f hf
  simp only [Ah,List.mem_cons,List.not_mem_nil,or_false] at hf
  rcases hf with rfl | rfl | rfl | rfl<;>exact rfl
end
section
theorem Mc {P:Program} {w:World} {ops:Array Oper} {rest:List Oper} {o:Oper} {act:Act} {Q:Exit→Act→World→Prop} (hgd:o.guard=none) (s x:Operand) {t u e:TypeId}
    (ho:o.op=.call { callee:=.builtin .append,args:=#[s,x],argTypes:=#[t,u] }) (under:P.underlying t=some (.slice e)) (hu:P.underlying u=some .string) (hinfo:(P.info? e).map (fun i=>(i.zero,i.size,i.bytes))=some (some (.int .u8 0),1,1)) (B:Nat)
    {a1:Option Addr} {n c:Nat} {st:ByteArray} {cs:List Value} (hs:act.eval s=.slice a1 n c) (hx:act.eval x=.string st)
    (hown:Own w B e 1 a1 n c cs) (hbytes:n+st.size≤140737488355328) (hbase:B≤w.heap.size)
    (h:∀ a' c' w',Own w' B e 1 a' (n+st.size) c' (cs++st.data.toList.map Ap)→w.grownBy w' (Value.slice a1 n c).ownBlock→Below B w w'→wpList P ops Q rest (act.put o.dst (.slice a' (n+st.size) c')) w') :
    wpList P ops Q (o::rest) act w:=by
  obtain ⟨i,hi,hz,hsz,hby⟩:=info_parts hinfo
  have hlt:∀ k,(Value.slice a1 n c).ownBlock=some k→B≤k:=fun k hk=>(World.ownsRow.lt hown k hk).1
  obtain ⟨v',w',hr,h2,h3,_⟩:=Lib.run_append_own_string (P:=P) w B t u o.type e i under hu hi hz hsz hby (.slice a1 n c) n cs hown st (by unfold maxLen;omega) hbytes hbase
  obtain ⟨a',c',rfl,h5⟩:=Hy h2
  exact Lib.wpList_append_run w hgd s x t u ho _ _ hs hx _ _ hr (h a' c' w' h5 h3 ((Below.refl B w).grown h3 hbase (fun k hk=>hlt k hk)))
end
section
theorem NF {w:World} {a:Option Addr} {c:Nat} {xs:List UInt8} (h:BB w a c xs):(convert 60 9 (.slice a xs.length c)).run Tryz.prog w=.ok (.string ⟨xs.toArray⟩) w:=by
  cases a with
  | none=>
    have hc:c=0:=h.2.2.2.1 rfl
    have hl:xs=[]:=List.eq_nil_of_length_eq_zero (by have:=h.2.1;omega)
    subst hl
    exact Lib.run_convert_nil_bytes w 60 9 5 c υ60 υ5 υ9
  | some p=>
    refine run_convert_bytes_back w 60 9 5 p c xs υ60 υ5 υ9 (fun j hj=>?_)
    obtain ⟨b,off,e,_,hc⟩:=h.bytes ω
    cases e
    have:=hc j hj
    rw [FU hj] at this
    unfold Addr.add
    split
    · subst j;simpa using this
    · exact this
end
end Go.Proofs.YtjgajoljgepioaaGreat
