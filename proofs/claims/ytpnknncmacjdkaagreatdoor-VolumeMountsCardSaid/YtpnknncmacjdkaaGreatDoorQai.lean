/- Parts of the proof. -/
import Derived.Sort.QuietIn
import Derived.BigRegionIn
import Derived.Laws.StructEq
import Derived.Shelf.Abstract
import Derived.Deep.Slices
import Derived.Deep.Fields
import Derived.ChangeSame
import Derived.Laws.RangeAny
import Derived.LoopTactic
import Derived.Lib.Bytealg
import Derived.Laws.Externs
import Derived.Lib.IndexLaws
import Derived.Test.YtpnknncmacjdkaaGreatDoorQah
namespace Go.Proofs.YtpnknncmacjdkaaGreatDoor
open Go.RowKit
open _root_.Go.Proofs.Tryz
set_option linter.unusedSimpArgs false
set_option linter.unusedVariables false
set_option linter.unusedSectionVars false
set_option maxRecDepth 100000
set_option maxHeartbeats 8000000
section
open Go.RowKit Go.Shelf
attribute [local go_sem] Oper.semAt_some
structure EntT where
  nm:ByteArray
  ino:Int
def RL (e:EntT):List Value:=[.string e.nm,ν e.ino]
def Ao (t:List EntT):List Value:=t.flatMap RL
theorem EE (t:List EntT):∀ i,(h:i<t.length)→(Ao t)[2*i]? = some (.string t[i].nm)∧(Ao t)[2*i+1]? = some (ν t[i].ino):=by
  induction t with
  | nil=>intro i h;cases h
  | cons e r ih=>
    intro i h
    cases i with
    | zero=>exact ⟨rfl,rfl⟩
    | succ k=>
      have:=ih k (by simpa using h)
      rw [show 2*(k+1)=2*k+1+1 by omega]
      exact this
theorem BG (t:List EntT):(Ao t).length=2*t.length:=by
  induction t with
  | nil=>rfl
  | cons e r ih=>show (RL e++Ao r).length=_;rw [List.length_append,ih];simp [RL];omega
theorem Vo:(⟨#[]⟩:ByteArray).toList.isEmpty=true:=by
  rw [← decide_eq_emptyBytes];exact decide_eq_true rfl
theorem Mk (s:ByteArray) (w:World) :
    Calls prog 139 #[.string s] w fun e w'=>e=.returned (.func (.func 159) #[] #[π w.heap.size])∧w'=w.alloc (.cells #[.string s] 9):=by
  go_enter func139,ntmps139
  go_wp2
  go_ret
  exact ⟨rfl,rfl⟩
def Sf (t:List EntT) (s:ByteArray) (x:Nat):Bool:=decide ((t.getD x ⟨⟨#[]⟩,0⟩).nm=s)
def Aer (o:Option Nat):Int:=match o with | none=>-1 | some x=>x
def AV (t:List EntT) (s:ByteArray):Int:=if s=⟨#[]⟩ then -1 else Aer ((BF (DQ s.data.toList)).find? (Sf t s))
theorem Sk {s:ByteArray} (h:¬ s=⟨#[]⟩):s.toList.isEmpty=false:=by
  rw [← decide_eq_emptyBytes];exact decide_eq_false h
theorem Ey {fn:Func} {c:Tmp} (h:fn.results=#[.cell c 3]) {tmps:Array Value} {w:World} {g:Nat} {e:TypeId} {v:Int} (hc:tmps.getD c undef=π g) (hb:Blk w g e [ν v]) :
    (results fn tmps).run prog w=.ok (ν v) w:=by
  have hc':tmps[c]?.getD undef=π g:=by simpa using hc
  have z:w.cell? ⟨g,0,none⟩=some (ν v):=hb.cell (i:=0) (by simp)
  have ub:=υ3
  have ib:(prog.info? 3).map (·.size)=some 1:=κ
  have hv2:(loadVar 3 ⟨g,0,none⟩).run prog w=.ok (ν v) w:=by go_simp
  simp [results,h,hc',asAddr,hv2]
theorem Kr {α:Type} {p:α→Bool} {l q:List α} {x:α} (h:q++[x] <+: l) (hq:∀ y∈q,p y=false) (hx:p x=true):l.find? p=some x:=by
  obtain ⟨r,rfl⟩:=h
  rw [List.append_assoc,List.find?_append]
  have:q.find? p=none:=List.find?_eq_none.2 (fun y hy=>by rw [hq y hy];simp)
  rw [this]
  simp [hx]
theorem CI {W:World} {n:Nat} (h:W.heap.size=n) (e:TypeId) (L:List Value):Blk (W.alloc (.cells L.toArray e)) n e L:=by subst h;exact heap_alloc_new W _
theorem JH (W:World) (o:Obj):Below W.heap.size W (W.alloc o):=(Below.refl _ W).alloc (Nat.le_refl _) o
theorem TQ (a b:ByteArray):(a.toList == b.toList)=decide (a=b):=by
  by_cases h:a=b
  · subst h;simp
  · rw [decide_eq_false h]
    exact beq_eq_false_iff_ne.2 (fun q=>h (by rw [ByteArray.toList_eq,ByteArray.toList_eq] at q;exact ByteArray.ext (Array.toList_inj.1 q)))
theorem JU (t:List EntT) (s:ByteArray) (ht:t.length=16) (hs:s.size≤1000) (w:World) :
    Calls prog 115 #[.agg (Ao t).toArray,.string s] w fun e w'=>e=.returned (ν (AV t s))∧Below w.heap.size w w':=by
  have hd:Fence.wide.depth=none:=rfl
  by_cases hs0:s=⟨#[]⟩
  · have hans:AV t s=-1:=if_pos hs0
    rw [hans]
    subst hs0
    clear hans hs ht hd
    have het:=Vo
    go_enter func115,ntmps115
    go_wp2
    refine bodyPost_ret (Ey rfl rfl (CI (n:=w.heap.size+1+1) (by simp) _ [ν (-1)])) rfl ⟨rfl,(((Below.refl _ w).alloc (Nat.le_refl _) _).alloc (by simp;try omega) _).alloc (by simp;try omega) _⟩
  have he:=Sk hs0
  obtain ⟨w3,hw3⟩:∃ w3,w3=(((w.alloc (.cells (Ao t).toArray 179)).alloc (.cells #[.string s] 9)).alloc (.cells #[ν 0] 3)):=⟨_,rfl⟩
  refine (callsIn_wide (n:=5)).1 ?_
  refine callsIn_of_wp_marks func115 rfl trivial ?_ rfl
  simp only [ntmps115,List.size_toArray,List.length_cons,List.length_nil,Nat.reduceAdd,Nat.reduceSub,Array.replicate_succ,Array.replicate_zero,List.push_toArray,List.append_toArray,List.nil_append,List.cons_append]
  gi_wp2_with ((try refine ⟨trivial,?_⟩);gi_at_call 139;refine (callsIn_wide.2 (Mk s _)).mono ?_;rintro e w4 ⟨rfl,hw4⟩)
  have hsz:w4.heap.size=w.heap.size+4:=by rw [hw4];simp
  have b0:Below w.heap.size w w4:=by rw [hw4];exact ((((Below.refl _ w).alloc (Nat.le_refl _) _).alloc (by simp;try omega) _).alloc (by simp;try omega) _).alloc (by simp;try omega) _
  have k0:Blk w4 w.heap.size 179 (Ao t):=by rw [hw4];exact (((CI rfl _ (Ao t)).mono (JH _ _)).mono (JH _ _)).mono (JH _ _)
  have k1:Blk w4 (w.heap.size+1) 9 [.string s]:=by rw [hw4];exact ((CI (by simp) _ [.string s]).mono (JH _ _)).mono (JH _ _)
  have k2:Blk w4 (w.heap.size+1+1) 3 [ν 0]:=by rw [hw4];exact (CI (by simp) _ [ν 0]).mono (JH _ _)
  have k3:Blk w4 (w.heap.size+1+1+1) 9 [.string s]:=by rw [hw4];exact CI (by simp) _ [.string s]
  have hpt:(((w.alloc (.cells (Ao t).toArray 179)).alloc (.cells #[.string s] 9)).alloc (.cells #[ν 0] 3)).heap.size=w.heap.size+1+1+1:=by simp
  try rw [← hw4]
  try rw [hpt]
  clear hw3 hw4 w3
  obtain ⟨hit,hhit⟩:∃ hit:Nat→Bool,hit=Sf t s:=⟨_,rfl⟩
  have HH:=hid hhit
  clear hhit
  have hI:StabC w4.heap.size (fun (pre:List Nat) W=>(Blk W w.heap.size 179 (Ao t)∧Blk W (w.heap.size+1) 9 [.string s]∧Blk W (w.heap.size+1+1) 3 [ν 0])∧(∀ y∈pre,hit y=false)∧Below w.heap.size w W):=by
    rintro pre X Y ⟨⟨hb0,hb1,hho⟩,h1,h2⟩ b
    exact ⟨⟨(b.block _ (by rw [hsz];omega)).trans hb0,(b.block _ (by rw [hsz];omega)).trans hb1,(b.block _ (by rw [hsz];omega)).trans hho⟩,h1,h2.trans (b.mono (by rw [hsz];omega))⟩
  have hIx:∀ c,StabC w4.heap.size (fun (pre:List Nat) W=>c=Code.ret∧∃ (q:List Nat) (x:Nat),pre=q++[x]∧(∀ y∈q,hit y=false)∧hit x=true∧Blk W (w.heap.size+1+1) 3 [ν (x:Int)]∧Below w.heap.size w W):=by
    rintro c pre X Y ⟨h0,q,x,h1,h2,h3,h4,h6⟩ b
    exact ⟨h0,q,x,h1,h2,h3,(b.block _ (by rw [hsz];omega)).trans h4,h6.trans (b.mono (by rw [hsz];omega))⟩
  refine Dd rfl ω (gf:=159) (lb:=#[π (w.heap.size+1+1+1)]) rfl trivial (enters_of func159 κ rfl)
    (Ml (5-1) w4 s hs _ k3) (Below.refl _ _) (fun _=>rfl)
    _ _ hI hIx ⟨⟨k0,k1,k2⟩,fun y hy=>absurd hy (by simp),b0⟩
    (fun (x:Nat) (a':Act) (W:World)=>a'={ tmps:=#[.agg (Ao t).toArray,.string s,π w.heap.size,π (w.heap.size+1),π (w.heap.size+1+1),ν (x:Int),.string s,.bool false,.string s,.func (.func 159) #[] #[π (w.heap.size+1+1+1)],ν (x:Int),undef,undef,undef,undef,undef,undef,undef],defers:=[] }) (fun _ _ _ _ _ _ h _=>h) ?assign ?body ?done ?stop
  case assign=>
    rintro l pre x W K hi hlt hK
    have HI:=hid hi
    clear hi
    gi_wp2
    exact hK _ _ (KeepUp.refl _ W) HI.out rfl
  case body=>
    rintro l pre x a' W ⟨⟨hb0,hb1,hho⟩,hno,hb⟩ rfl hlt _ hsp
    have hx:=Mi (DQ s.data.toList) x (hsp.subset (by simp))
    clear hsp
    have hxt:x<t.length:=ω
    have hge:t.getD x ⟨⟨#[]⟩,0⟩=t[x]:=by simp [hxt]
    have x0:W.cell? ⟨w.heap.size,x*2,none⟩=some (.string t[x].nm):=by
      have q:=(EE t x hxt).1
      obtain ⟨hq,hv⟩:=List.getElem?_eq_some_iff.1 q
      rw [Nat.mul_comm x 2,hb0.cell (i:=2*x) hq,hv]
    have hhit:Sf t s x=decide (t[x].nm=s):=by unfold Sf;rw [hge]
    have hst:=TQ t[x].nm s
    generalize t[x].nm=nm at *
    clear hge
    have s0:W.cell? ⟨w.heap.size+1,0,none⟩=some (.string s):=hb1.cell (i:=0) (by simp)
    have o0:W.cell? ⟨w.heap.size+1+1,0,none⟩=some (ν 0):=hho.cell (i:=0) (by simp)
    have of0:W.frozen? ⟨w.heap.size+1+1,0,none⟩=false:=hho.frozen 0
    have HH0:=hid hb0;have HH1:=hid hb1;have HH2:=hid hho;have HNO:=hid hno;have HB:=hid hb
    clear hb0 hb1 hho hno hb
    have HHT:=hid hhit
    clear hhit
    have hx16:(x:Int)<16:=ω
    by_cases hq:nm=s
    · rw [decide_eq_true hq] at hst
      have hh:hit x=true:=by rw [HH.out,HHT.out];exact decide_eq_true hq
      clear hq
      gi_wp2
      gi_region
      all_goals
        simp only [Exit.then]
        go_at_K
        gi_wp2
      all_goals
        refine ⟨((KeepUp.refl _ W).setCell (p:=⟨w.heap.size+1+1,0,none⟩) (by rw [hsz];exact (ω:w.heap.size+1+1<w.heap.size+4)) _).drew,rfl,pre,x,rfl,HNO.out,hh,HH2.out.set 0 _,(HB.out.setCell (p:=⟨w.heap.size+1+1,0,none⟩) (ω:w.heap.size≤w.heap.size+1+1) _).drew⟩
    · rw [decide_eq_false hq] at hst
      have hh:hit x=false:=by rw [HH.out,HHT.out];exact decide_eq_false hq
      clear hq
      gi_wp2
      gi_region
      all_goals
        simp only [Exit.then]
        go_at_K
        gi_wp2
      all_goals
        refine ⟨(KeepUp.refl _ W).drew,⟨HH0.out,HH1.out,HH2.out⟩,fun y hy=>?_,HB.out.drew⟩
        rcases List.mem_append.1 hy with h | h
        · exact HNO.out y h
        · rw [List.mem_singleton.1 h];exact hh
  case done=>
    rintro D xs W hD rfl ⟨⟨hb0,hb1,hho⟩,hno,hb⟩ hk
    have hans:AV t s=-1:=by
      have:(BF (DQ s.data.toList)).find? (Sf t s)=none:=List.find?_eq_none.2 (fun y hy=>by have:=hno y hy;rw [HH.out] at this;rw [this];simp)
      unfold AV
      rw [if_neg hs0,this];rfl
    have HANS:=hid hans
    clear hans
    have o0:W.cell? ⟨w.heap.size+1+1,0,none⟩=some (ν 0):=hho.cell (i:=0) (by simp)
    have of0:W.frozen? ⟨w.heap.size+1+1,0,none⟩=false:=hho.frozen 0
    have HH2:=hid hho;have HB:=hid hb;have HK:=hid hk
    clear hb0 hb1 hho hno hb hk
    gi_wp2
    refine ⟨by simp,.inl ⟨_,_,rfl,run_takeDeferred (ds:=[]) ((Below.heap_setCell _ _ _ _ (by rw [hsz] at hD;exact (ω:D≠w.heap.size+1+1))).trans HK.out),?_⟩⟩
    exact ⟨_,Ey rfl rfl ((World.putObj_heap_other (by rw [hsz] at hD;omega)).trans (HH2.out.set 0 _)),by rw [HANS.out],BE (HB.out.setCell (p:=⟨w.heap.size+1+1,0,none⟩) (ω:w.heap.size≤w.heap.size+1+1) _) _ (by rw [hsz] at hD;omega)⟩
  case stop=>
    rintro D c pre W hD hsp ⟨rfl,q,x,rfl,hno,hx,ho,hb⟩ hk
    have hans:AV t s=(x:Int):=by
      have:(BF (DQ s.data.toList)).find? (Sf t s)=some x:=Kr hsp (fun y hy=>by have:=hno y hy;rw [HH.out] at this;exact this) (by rw [HH.out] at hx;exact hx)
      unfold AV
      rw [if_neg hs0,this];rfl
    have HANS:=hid hans
    clear hans
    gi_wp2
    refine ⟨by simp,.inl ⟨_,_,rfl,run_takeDeferred hk,?_⟩⟩
    exact ⟨_,Ey rfl rfl ((World.putObj_heap_other (by rw [hsz] at hD;omega)).trans ho),by rw [HANS.out],BE hb _ (by rw [hsz] at hD;omega)⟩
end
section
open Go.RowKit Go.Shelf
attribute [local go_sem] Oper.semAt_some
theorem RN (a b:ByteArray) (i j:Int) (w:World):(Op.equalIn 10000 177 (.agg #[.string a,ν i]) (.agg #[.string b,ν j])).run prog w=.ok (decide (a=b∧i=j)) w:=by
  have u3:=υ3
  have a3:=Tryz.isAgg3
  have z3:=Tryz.sizeOf3
  have u9:=υ9
  have a9:=Tryz.isAgg9
  have z9:=Tryz.sizeOf9
  have hS:prog.underlying 177=some (.struct (prog.fieldsOf 177)):=κ
  have hp:prog.stoodInHeld 177=false:=κ
  rw [show (10000:Nat)=9999+1 from rfl,run_equalIn_agg w 9999 177 _ _ hS hp]
  simp only [Program.fieldsOf,υ177]
  have he:=TQ a b
  by_cases h0:a=b
  · rw [decide_eq_true h0] at he
    go_simp
    by_cases h1:i=j<;>simp [h0,h1]
  · rw [decide_eq_false h0] at he
    go_simp
    try simp [h0]
def Nv (t:List EntT) (x:Nat):Bool:=decide ((t.getD x ⟨⟨#[]⟩,0⟩).nm=⟨#[]⟩∧(t.getD x ⟨⟨#[]⟩,0⟩).ino=0)
def Ek (t:List EntT) (s:ByteArray):Int:=Aer ((BF (DQ s.data.toList)).find? (Nv t))
theorem IE (t:List EntT) (s:ByteArray) (ht:t.length=16) (hs:s.size≤1000) (w:World) :
    Calls prog 117 #[.agg (Ao t).toArray,.string s] w fun e w'=>e=.returned (ν (Ek t s))∧Below w.heap.size w w':=by
  have hd:Fence.wide.depth=none:=rfl
  refine (callsIn_wide (n:=5)).1 ?_
  refine callsIn_of_wp_marks func117 rfl trivial ?_ rfl
  simp only [ntmps117,List.size_toArray,List.length_cons,List.length_nil,Nat.reduceAdd,Nat.reduceSub,Array.replicate_succ,Array.replicate_zero,List.push_toArray,List.append_toArray,List.nil_append,List.cons_append]
  gi_wp2_with ((try refine ⟨trivial,?_⟩);gi_at_call 139;refine (callsIn_wide.2 (Mk s _)).mono ?_;rintro e w4 ⟨rfl,hw4⟩)
  have hsz:w4.heap.size=w.heap.size+3:=by rw [hw4];simp
  have b0:Below w.heap.size w w4:=by rw [hw4];exact (((Below.refl _ w).alloc (Nat.le_refl _) _).alloc (by simp;try omega) _).alloc (by simp;try omega) _
  have k0:Blk w4 w.heap.size 179 (Ao t):=by rw [hw4];exact ((CI rfl _ (Ao t)).mono (JH _ _)).mono (JH _ _)
  have k2:Blk w4 (w.heap.size+1) 3 [ν 0]:=by rw [hw4];exact (CI (by simp) _ [ν 0]).mono (JH _ _)
  have k3:Blk w4 (w.heap.size+1+1) 9 [.string s]:=by rw [hw4];exact CI (by simp) _ [.string s]
  have hpt:((w.alloc (.cells (Ao t).toArray 179)).alloc (.cells #[ν 0] 3)).heap.size=w.heap.size+1+1:=by simp
  try rw [← hw4]
  try rw [hpt]
  clear hw4
  obtain ⟨hit,hhit⟩:∃ hit:Nat→Bool,hit=Nv t:=⟨_,rfl⟩
  have HH:=hid hhit
  clear hhit
  have hI:StabC w4.heap.size (fun (pre:List Nat) W=>(Blk W w.heap.size 179 (Ao t)∧Blk W (w.heap.size+1) 3 [ν 0])∧(∀ y∈pre,hit y=false)∧Below w.heap.size w W):=by
    rintro pre X Y ⟨⟨hb0,hho⟩,h1,h2⟩ b
    exact ⟨⟨(b.block _ (by rw [hsz];omega)).trans hb0,(b.block _ (by rw [hsz];omega)).trans hho⟩,h1,h2.trans (b.mono (by rw [hsz];omega))⟩
  have hIx:∀ c,StabC w4.heap.size (fun (pre:List Nat) W=>c=Code.ret∧∃ (q:List Nat) (x:Nat),pre=q++[x]∧(∀ y∈q,hit y=false)∧hit x=true∧Blk W (w.heap.size+1) 3 [ν (x:Int)]∧Below w.heap.size w W):=by
    rintro c pre X Y ⟨h0,q,x,h1,h2,h3,h4,h6⟩ b
    exact ⟨h0,q,x,h1,h2,h3,(b.block _ (by rw [hsz];omega)).trans h4,h6.trans (b.mono (by rw [hsz];omega))⟩
  refine Dd rfl ω (gf:=159) (lb:=#[π (w.heap.size+1+1)]) rfl trivial (enters_of func159 κ rfl)
    (Ml (5-1) w4 s hs _ k3) (Below.refl _ _) (fun _=>rfl)
    _ _ hI hIx ⟨⟨k0,k2⟩,fun y hy=>absurd hy (by simp),b0⟩
    (fun (x:Nat) (a':Act) (W:World)=>a'={ tmps:=#[.agg (Ao t).toArray,.string s,π w.heap.size,undef,π (w.heap.size+1),ν (x:Int),.string s,.func (.func 159) #[] #[π (w.heap.size+1+1)],ν (x:Int),undef,undef,undef,undef,undef,undef],defers:=[] }) (fun _ _ _ _ _ _ h _=>h) ?assign ?body ?done ?stop
  case assign=>
    rintro l pre x W K hi hlt hK
    have HI:=hid hi
    clear hi
    gi_wp2
    exact hK _ _ (KeepUp.refl _ W) HI.out rfl
  case body=>
    rintro l pre x a' W ⟨⟨hb0,hho⟩,hno,hb⟩ rfl hlt _ hsp
    have hx:=Mi (DQ s.data.toList) x (hsp.subset (by simp))
    clear hsp
    have hxt:x<t.length:=ω
    have hge:t.getD x ⟨⟨#[]⟩,0⟩=t[x]:=by simp [hxt]
    have x0:W.cell? ⟨w.heap.size,x*2,none⟩=some (.string t[x].nm):=by
      have q:=(EE t x hxt).1
      obtain ⟨hq,hv⟩:=List.getElem?_eq_some_iff.1 q
      rw [Nat.mul_comm x 2,hb0.cell (i:=2*x) hq,hv]
    have x1:W.cell? ⟨w.heap.size,x*2+1,none⟩=some (ν t[x].ino):=by
      have q:=(EE t x hxt).2
      obtain ⟨hq,hv⟩:=List.getElem?_eq_some_iff.1 q
      rw [Nat.mul_comm x 2,hb0.cell (i:=2*x+1) hq,hv]
    have hhit:Nv t x=decide (t[x].nm=⟨#[]⟩∧t[x].ino=0):=by unfold Nv;rw [hge]
    have E:=RN t[x].nm ⟨#[]⟩ t[x].ino 0
    generalize t[x].ino=ino at *
    generalize t[x].nm=nm at *
    clear hge
    have o0:W.cell? ⟨w.heap.size+1,0,none⟩=some (ν 0):=hho.cell (i:=0) (by simp)
    have of0:W.frozen? ⟨w.heap.size+1,0,none⟩=false:=hho.frozen 0
    have HH0:=hid hb0;have HH2:=hid hho;have HNO:=hid hno;have HB:=hid hb
    clear hb0 hho hno hb
    have HHT:=hid hhit
    clear hhit
    have hx16:(x:Int)<16:=ω
    by_cases hq:nm=⟨#[]⟩∧ino=0
    · rw [decide_eq_true hq] at E
      have hh:hit x=true:=by rw [HH.out,HHT.out];exact decide_eq_true hq
      clear hq
      gi_wp2
      refine ⟨(KeepUp.refl _ W).setCell (p:=⟨w.heap.size+1,0,none⟩) (by rw [hsz];exact (ω:w.heap.size+1<w.heap.size+3)) _,rfl,pre,x,rfl,HNO.out,hh,HH2.out.set 0 _,HB.out.setCell (p:=⟨w.heap.size+1,0,none⟩) (ω:w.heap.size≤w.heap.size+1) _⟩
    · rw [decide_eq_false hq] at E
      have hh:hit x=false:=by rw [HH.out,HHT.out];exact decide_eq_false hq
      clear hq
      gi_wp2
      refine ⟨(KeepUp.refl _ W),⟨HH0.out,HH2.out⟩,fun y hy=>?_,HB.out⟩
      rcases List.mem_append.1 hy with h | h
      · exact HNO.out y h
      · rw [List.mem_singleton.1 h];exact hh
  case done=>
    rintro D xs W hD rfl ⟨⟨hb0,hho⟩,hno,hb⟩ hk
    have hans:Ek t s=-1:=by
      have:(BF (DQ s.data.toList)).find? (Nv t)=none:=List.find?_eq_none.2 (fun y hy=>by have:=hno y hy;rw [HH.out] at this;rw [this];simp)
      unfold Ek
      rw [this];rfl
    have HANS:=hid hans
    clear hans
    have o0:W.cell? ⟨w.heap.size+1,0,none⟩=some (ν 0):=hho.cell (i:=0) (by simp)
    have of0:W.frozen? ⟨w.heap.size+1,0,none⟩=false:=hho.frozen 0
    have HH2:=hid hho;have HB:=hid hb;have HK:=hid hk
    clear hb0 hho hno hb hk
    gi_wp2
    refine ⟨by simp,.inl ⟨_,_,rfl,run_takeDeferred (ds:=[]) ((Below.heap_setCell _ _ _ _ (by rw [hsz] at hD;exact (ω:D≠w.heap.size+1))).trans HK.out),?_⟩⟩
    exact ⟨_,Ey rfl rfl ((World.putObj_heap_other (by rw [hsz] at hD;omega)).trans (HH2.out.set 0 _)),by rw [HANS.out],BE (HB.out.setCell (p:=⟨w.heap.size+1,0,none⟩) (ω:w.heap.size≤w.heap.size+1) _) _ (by rw [hsz] at hD;omega)⟩
  case stop=>
    rintro D c pre W hD hsp ⟨rfl,q,x,rfl,hno,hx,ho,hb⟩ hk
    have hans:Ek t s=(x:Int):=by
      have:(BF (DQ s.data.toList)).find? (Nv t)=some x:=Kr hsp (fun y hy=>by have:=hno y hy;rw [HH.out] at this;exact this) (by rw [HH.out] at hx;exact hx)
      unfold Ek
      rw [this];rfl
    have HANS:=hid hans
    clear hans
    gi_wp2
    refine ⟨by simp,.inl ⟨_,_,rfl,run_takeDeferred hk,?_⟩⟩
    exact ⟨_,Ey rfl rfl ((World.putObj_heap_other (by rw [hsz] at hD;omega)).trans ho),by rw [HANS.out],BE hb _ (by rw [hsz] at hD;omega)⟩
end
section
open Go.RowKit Go.Shelf
def EntAt (w:World) (b off:Nat) (t:List EntT):Prop:=b<w.heap.size∧∀ i (h:i<t.length),w.cell? ⟨b,off+i*2,none⟩=some (.string t[i].nm)∧w.cell? ⟨b,off+i*2+1,none⟩=some (ν t[i].ino)
theorem EntAt.mono {w w':World} {b off:Nat} {t:List EntT} (h:EntAt w b off t) (hb:Below w.heap.size w w'):EntAt w' b off t:=
  ⟨Nat.lt_of_lt_of_le h.1 hb.size,fun i hi=>⟨(hb.cell (p:=⟨b,off+i*2,none⟩) h.1).trans (h.2 i hi).1,(hb.cell (p:=⟨b,off+i*2+1,none⟩) h.1).trans (h.2 i hi).2⟩⟩
end
section
open Go.RowKit Go.Shelf
def Aeg (s:ByteArray):ByteArray:=if s.size≤20 then s else s.extract 0 20
end
section
open Go.RowKit Go.Shelf
theorem Hz:(prog.info? 179).map (·.size)=some 32:=κ
def Bd:List EntT:=List.replicate 16 ⟨⟨#[]⟩,0⟩
def Afb:Array Value:=#[.string ⟨#[]⟩,ν 0,.string ⟨#[]⟩,ν 0,.string ⟨#[]⟩,ν 0,.string ⟨#[]⟩,ν 0,.string ⟨#[]⟩,ν 0,.string ⟨#[]⟩,ν 0,.string ⟨#[]⟩,ν 0,.string ⟨#[]⟩,ν 0,.string ⟨#[]⟩,ν 0,.string ⟨#[]⟩,ν 0,.string ⟨#[]⟩,ν 0,.string ⟨#[]⟩,ν 0,.string ⟨#[]⟩,ν 0,.string ⟨#[]⟩,ν 0,.string ⟨#[]⟩,ν 0,.string ⟨#[]⟩,ν 0]
theorem Aai:Afb=(Ao Bd).toArray:=rfl
theorem GW (e:EntT):∀ v∈RL e,v.oneCell'=true:=by
  intro v hv
  unfold RL at hv
  simp only [List.mem_cons,List.not_mem_nil,or_false] at hv
  rcases hv with e | e<;>rw [e]<;>rfl
theorem Rc (t:List EntT):∀ v∈Ao t,v.oneCell'=true:=by
  intro v hv
  simp only [Ao,List.mem_flatMap] at hv
  obtain ⟨e,_,he⟩:=hv
  exact GW e v he
theorem Ze (t:List EntT) (e:EntT):∀ i,i<t.length→Ao (t.set i e)=((Ao t).set (2*i) (.string e.nm)).set (2*i+1) (ν e.ino):=by
  induction t with
  | nil=>intro i h;cases h
  | cons d r ih=>
    intro i h
    cases i with
    | zero=>rfl
    | succ k=>
      rw [show 2*(k+1)=2*k+1+1 by omega]
      show RL d++Ao (r.set k e)=_
      rw [ih k (by simpa using h)]
      rfl
theorem DF {w:World} {ops:Array Oper} {rest:List Oper} {o:Oper} {act:Act} {Q:Exit→Act→World→Prop} (hgd:o.guard=none) (x:Operand)
    (ho:o.op=.load 179 x) (g:Nat) (hx:act.eval x=π g) {e:TypeId} (t:List EntT) (ht:t.length=16) (hb:Blk w g e (Ao t))
    (h:wpList prog ops Q rest (act.put o.dst (.agg (Ao t).toArray)) w):wpList prog ops Q (o::rest) act w:=
  wpList_load_mid hgd 179 x ho g 0 hx (Ao t) _ hb.range υ179 rfl (by rw [Hz,BG,ht]) h
theorem CY {w:World} {ops:Array Oper} {rest:List Oper} {o:Oper} {act:Act} {Q:Exit→Act→World→Prop} (hgd:o.guard=none) (x y:Operand)
    (ho:o.op=.store 179 x y) (g:Nat) (hx:act.eval x=π g) {e:TypeId} (t:List EntT) (ht:t.length=16) (hy:act.eval y=.agg (Ao t).toArray) {L:List Value} (hb:Blk w g e L) (hL:L.length=32)
    (h:∀ w',Blk w' g e (Ao t)→w.grownBy w' (some g)→wpList prog ops Q rest (act.put o.dst undef) w'):wpList prog ops Q (o::rest) act w:=
  MW hgd 179 x y ho g hx (Ao t) hy (by rw [Hz,BG,ht]) (Rc _) hb (by rw [BG,ht,hL]) h
def EC (t:List EntT) (at_:Int) (e:EntT):List EntT:=if 0≤at_∧at_<16 then t.set at_.toNat e else t
theorem AD (t:List EntT) (at_:Int) (e:EntT):(EC t at_ e).length=t.length:=by unfold EC;split<;>simp
theorem CS:(prog.info? 177).map (·.size)=some 2:=κ
theorem Tq {w:World} {ops:Array Oper} {rest:List Oper} {o:Oper} {act:Act} {Q:Exit→Act→World→Prop} (hgd:o.guard=none) (x:Operand)
    (ho:o.op=.load 177 x) (g:Nat) (hx:act.eval x=π g) {e:TypeId} (n:ByteArray) (i:Int) (hb:Blk w g e [.string n,ν i])
    (h:wpList prog ops Q rest (act.put o.dst (.agg #[.string n,ν i])) w):wpList prog ops Q (o::rest) act w:=
  wpList_load_mid hgd 177 x ho g 0 hx [.string n,ν i] _ hb.range υ177 rfl (by rw [CS];rfl) h
theorem Wo (t:List EntT) (n:ByteArray) (i:Int) (k:Nat) (h:k<t.length):Ao (t.set k ⟨n,i⟩)=((Ao t).set (k*2) (.string n)).set (k*2+1) (ν i):=by
  rw [Ze t ⟨n,i⟩ k h,Nat.mul_comm k 2]
theorem QS (t:List EntT) (at_:Int) (n:ByteArray) (i:Int) (ht:t.length=16) (w:World) :
    Calls prog 144 #[.agg (Ao t).toArray,ν at_,.agg #[.string n,ν i]] w fun e w'=>e=.returned (.agg (Ao (EC t at_ ⟨n,i⟩)).toArray)∧Below w.heap.size w w':=by
  obtain ⟨w3,hw3⟩:∃ w3,w3=(((w.alloc (.cells (Ao t).toArray 179)).alloc (.cells #[.string n,ν i] 177)).alloc (.cells #[.string ⟨#[]⟩,ν 0,.string ⟨#[]⟩,ν 0,.string ⟨#[]⟩,ν 0,.string ⟨#[]⟩,ν 0,.string ⟨#[]⟩,ν 0,.string ⟨#[]⟩,ν 0,.string ⟨#[]⟩,ν 0,.string ⟨#[]⟩,ν 0,.string ⟨#[]⟩,ν 0,.string ⟨#[]⟩,ν 0,.string ⟨#[]⟩,ν 0,.string ⟨#[]⟩,ν 0,.string ⟨#[]⟩,ν 0,.string ⟨#[]⟩,ν 0,.string ⟨#[]⟩,ν 0,.string ⟨#[]⟩,ν 0] 179)):=⟨_,rfl⟩
  have b0:Below w.heap.size w (((w.alloc (.cells (Ao t).toArray 179)).alloc (.cells #[.string n,ν i] 177)).alloc (.cells #[.string ⟨#[]⟩,ν 0,.string ⟨#[]⟩,ν 0,.string ⟨#[]⟩,ν 0,.string ⟨#[]⟩,ν 0,.string ⟨#[]⟩,ν 0,.string ⟨#[]⟩,ν 0,.string ⟨#[]⟩,ν 0,.string ⟨#[]⟩,ν 0,.string ⟨#[]⟩,ν 0,.string ⟨#[]⟩,ν 0,.string ⟨#[]⟩,ν 0,.string ⟨#[]⟩,ν 0,.string ⟨#[]⟩,ν 0,.string ⟨#[]⟩,ν 0,.string ⟨#[]⟩,ν 0,.string ⟨#[]⟩,ν 0] 179)):=(((Below.refl _ w).alloc (Nat.le_refl _) _).alloc (by simp;try omega) _).alloc (by simp;try omega) _
  have k0:Blk (((w.alloc (.cells (Ao t).toArray 179)).alloc (.cells #[.string n,ν i] 177)).alloc (.cells #[.string ⟨#[]⟩,ν 0,.string ⟨#[]⟩,ν 0,.string ⟨#[]⟩,ν 0,.string ⟨#[]⟩,ν 0,.string ⟨#[]⟩,ν 0,.string ⟨#[]⟩,ν 0,.string ⟨#[]⟩,ν 0,.string ⟨#[]⟩,ν 0,.string ⟨#[]⟩,ν 0,.string ⟨#[]⟩,ν 0,.string ⟨#[]⟩,ν 0,.string ⟨#[]⟩,ν 0,.string ⟨#[]⟩,ν 0,.string ⟨#[]⟩,ν 0,.string ⟨#[]⟩,ν 0,.string ⟨#[]⟩,ν 0] 179)) w.heap.size 179 (Ao t):=((CI rfl _ (Ao t)).mono (JH _ _)).mono (JH _ _)
  have k1:Blk (((w.alloc (.cells (Ao t).toArray 179)).alloc (.cells #[.string n,ν i] 177)).alloc (.cells #[.string ⟨#[]⟩,ν 0,.string ⟨#[]⟩,ν 0,.string ⟨#[]⟩,ν 0,.string ⟨#[]⟩,ν 0,.string ⟨#[]⟩,ν 0,.string ⟨#[]⟩,ν 0,.string ⟨#[]⟩,ν 0,.string ⟨#[]⟩,ν 0,.string ⟨#[]⟩,ν 0,.string ⟨#[]⟩,ν 0,.string ⟨#[]⟩,ν 0,.string ⟨#[]⟩,ν 0,.string ⟨#[]⟩,ν 0,.string ⟨#[]⟩,ν 0,.string ⟨#[]⟩,ν 0,.string ⟨#[]⟩,ν 0] 179)) (w.heap.size+1) 177 [.string n,ν i]:=(CI (by simp) _ [.string n,ν i]).mono (JH _ _)
  have k2:Blk (((w.alloc (.cells (Ao t).toArray 179)).alloc (.cells #[.string n,ν i] 177)).alloc (.cells #[.string ⟨#[]⟩,ν 0,.string ⟨#[]⟩,ν 0,.string ⟨#[]⟩,ν 0,.string ⟨#[]⟩,ν 0,.string ⟨#[]⟩,ν 0,.string ⟨#[]⟩,ν 0,.string ⟨#[]⟩,ν 0,.string ⟨#[]⟩,ν 0,.string ⟨#[]⟩,ν 0,.string ⟨#[]⟩,ν 0,.string ⟨#[]⟩,ν 0,.string ⟨#[]⟩,ν 0,.string ⟨#[]⟩,ν 0,.string ⟨#[]⟩,ν 0,.string ⟨#[]⟩,ν 0,.string ⟨#[]⟩,ν 0] 179)) (w.heap.size+1+1) 179 (Ao Bd):=CI (by simp) _ (Ao Bd)
  have hz:(Ao Bd).length=32:=by rw [BG];rfl
  have K0:=hid k0;have K1:=hid k1;have K2:=hid k2;have B0:=hid b0;have HW:=hid hw3
  clear k0 k1 k2 b0 hw3
  by_cases h1:0≤at_∧at_<16
  · obtain ⟨k,rfl⟩:∃ k:Nat,at_=k:=⟨at_.toNat,ω⟩
    have hk:k<t.length:=ω
    have hr:EC t (k:Int) ⟨n,i⟩=t.set k ⟨n,i⟩:=by unfold EC;rw [if_pos h1];rfl
    rw [hr]
    have d1:decide ((0:Int)≤k)=true:=decide_eq_true ω
    have d2:decide ((k:Int)<16)=true:=decide_eq_true ω
    have d3:(k:Int)<16:=h1.2
    have K0':Hid (Blk w3 w.heap.size 179 (Ao t)):=by rw [HW.out];exact K0.out
    have K1':Hid (Blk w3 (w.heap.size+1) 177 [.string n,ν i]):=by rw [HW.out];exact K1.out
    have K2':Hid (Blk w3 (w.heap.size+1+1) 179 (Ao Bd)):=by rw [HW.out];exact K2.out
    have B0':Hid (Below w.heap.size w w3):=by rw [HW.out];exact B0.out
    obtain ⟨hq0,hv0⟩:=List.getElem?_eq_some_iff.1 (EE t k hk).1
    obtain ⟨hq1,hv1⟩:=List.getElem?_eq_some_iff.1 (EE t k hk).2
    have c0:w3.cell? ⟨w.heap.size,k*2,none⟩=some (.string t[k].nm):=by rw [Nat.mul_comm k 2,K0'.out.cell (i:=2*k) hq0,hv0]
    have c1:w3.cell? ⟨w.heap.size,k*2+1,none⟩=some (ν t[k].ino):=by rw [Nat.mul_comm k 2,K0'.out.cell (i:=2*k+1) hq1,hv1]
    have f0:w3.frozen? ⟨w.heap.size,k*2,none⟩=false:=K0'.out.frozen _
    have f1:w3.frozen? ⟨w.heap.size,k*2+1,none⟩=false:=K0'.out.frozen _
    have ks:=(K0'.out.set (k*2) (.string n)).set (k*2+1) (ν i)
    rw [← Wo t n i k hk] at ks
    have kz:=(K2'.out.setOtherS (ω:w.heap.size+1+1≠w.heap.size) (k*2) (.string n)).setOtherS (ω:w.heap.size+1+1≠w.heap.size) (k*2+1) (ν i)
    have KS:=hid ks;have KZ:=hid kz
    have hl:(t.set k ⟨n,i⟩).length=16:=by simp [ht]
    have HL:=hid hl
    clear hr ks kz hq0 hq1 hv0 hv1 hl
    generalize t[k].nm=nm0 at *
    generalize t[k].ino=BS at *
    go_enter func144,ntmps144
    go_wp2_with (first
      | (rw [← HW.out];with_reducible refine Tq rfl _ rfl (w.heap.size+1) rfl n i K1'.out ?_)
      | (with_reducible refine DF rfl _ rfl w.heap.size rfl (t.set k ⟨n,i⟩) HL.out KS.out ?_)
      | ((with_reducible refine CY rfl _ _ rfl (w.heap.size+1+1) rfl (t.set k ⟨n,i⟩) HL.out rfl KZ.out hz ?_);intro w5 k5 g5;have K5:=hid k5;have G5:=hid g5;clear k5 g5))
    refine bodyPost_ret (Dm rfl rfl K5.out υ179 rfl (by rw [Hz,BG,HL.out])) rfl ⟨rfl,?_⟩
    have q:=(B0'.out.setCell (p:=⟨w.heap.size,k*2,none⟩) (Nat.le_refl _) (.string n)).setCell (p:=⟨w.heap.size,k*2+1,none⟩) (Nat.le_refl _) (ν i)
    exact AS q G5.out ω q.size
  · have hr:EC t at_ ⟨n,i⟩=t:=if_neg h1
    rw [hr]
    clear hr
    by_cases h0:0≤at_
    · have d1:decide (0≤at_)=true:=decide_eq_true h0
      have d2:decide (at_<16)=false:=decide_eq_false (fun h=>h1 ⟨h0,h⟩)
      clear h1 h0
      go_enter func144,ntmps144
      go_wp2_with (first
        | (with_reducible refine DF rfl _ rfl w.heap.size rfl t ht K0.out ?_)
        | ((with_reducible refine CY rfl _ _ rfl (w.heap.size+1+1) rfl t ht rfl K2.out hz ?_);intro w5 k5 g5;have K5:=hid k5;have G5:=hid g5;clear k5 g5))
      refine bodyPost_ret (Dm rfl rfl K5.out υ179 rfl (by rw [Hz,BG,ht])) rfl ⟨rfl,?_⟩
      exact AS B0.out G5.out ω B0.out.size
    · have d1:decide (0≤at_)=false:=decide_eq_false h0
      clear h1 h0
      go_enter func144,ntmps144
      go_wp2_with (first
        | (with_reducible refine DF rfl _ rfl w.heap.size rfl t ht K0.out ?_)
        | ((with_reducible refine CY rfl _ _ rfl (w.heap.size+1+1) rfl t ht rfl K2.out hz ?_);intro w5 k5 g5;have K5:=hid k5;have G5:=hid g5;clear k5 g5))
      refine bodyPost_ret (Dm rfl rfl K5.out υ179 rfl (by rw [Hz,BG,ht])) rfl ⟨rfl,?_⟩
      exact AS B0.out G5.out ω B0.out.size
end
section
open Go.RowKit Go.Shelf
def nmA:ByteArray:=⟨#[97]⟩
def nmB:ByteArray:=⟨#[98]⟩
def LZ:List EntT:=EC Bd 14 ⟨nmA,3⟩
theorem OP:LZ.length=16:=by decide +kernel
theorem Afc:Ek Bd nmA=14:=by decide +kernel
theorem Afd:AV LZ nmA=14:=by decide +kernel
theorem Afe:Ek LZ nmA=15:=by decide +kernel
theorem Aff:AV LZ nmB=-1:=by decide +kernel
theorem l1 (w1:World):Calls prog 117 #[.agg (Ao Bd).toArray,.string nmA] w1 fun e w'=>e=.returned (ν 14)∧Below w1.heap.size w1 w':=by
  have H1:=IE Bd nmA (by decide +kernel) (by decide +kernel) w1
  rw [Afc] at H1
  exact H1
theorem l2 (w1:World):Calls prog 144 #[.agg (Ao Bd).toArray,ν 14,.agg #[.string nmA,ν 3]] w1 fun e w'=>e=.returned (.agg (Ao LZ).toArray)∧Below w1.heap.size w1 w':=
  QS Bd 14 nmA 3 (by decide +kernel) w1
theorem l3 (w1:World):Calls prog 115 #[.agg (Ao LZ).toArray,.string nmA] w1 fun e w'=>e=.returned (ν 14)∧Below w1.heap.size w1 w':=by
  have H1:=JU LZ nmA OP (by decide +kernel) w1
  rw [Afd] at H1
  exact H1
theorem l4 (w1:World):Calls prog 117 #[.agg (Ao LZ).toArray,.string nmA] w1 fun e w'=>e=.returned (ν 15)∧Below w1.heap.size w1 w':=by
  have H1:=IE LZ nmA OP (by decide +kernel) w1
  rw [Afe] at H1
  exact H1
theorem l5 (w1:World):Calls prog 115 #[.agg (Ao LZ).toArray,.string nmB] w1 fun e w'=>e=.returned (ν (-1))∧Below w1.heap.size w1 w':=by
  have H1:=JU LZ nmB OP (by decide +kernel) w1
  rw [Aff] at H1
  exact H1
theorem SU {o:Oper} (ho:o.op=.alloc 179) (ρ:Operand→Value) (w:World):(execOp ρ o).run prog w=.ok (.value (π w.heap.size)) (w.alloc (.cells Afb 179)):=by
  unfold execOp;rw [ho];kernel_rfl
theorem GD {w:World} {ops:Array Oper} {rest:List Oper} {o:Oper} {act:Act} {Q:Exit→Act→World→Prop} {z:List EntT} (hz:z=Bd) (hgd:o.guard=none) (ho:o.op=.alloc 179)
    (h:∀ w',Blk w' w.heap.size 179 (Ao z)→Below w.heap.size w w'→w'.heap.size=w.heap.size+1→wpList prog ops Q rest (act.put o.dst (π w.heap.size)) w'):wpList prog ops Q (o::rest) act w:=by
  subst hz
  refine WB hgd _ _ (SU ho _ w) ?_
  exact h _ (by rw [Aai];exact CI rfl _ _) (JH _ _) (by simp)
theorem Ap:Bd.length=16:=by decide +kernel
theorem Aby {t:List EntT} (h:t.length=16):(Ao t).length=32:=by rw [BG,h]
end
section
open Go.RowKit Go.Shelf
end
section
open Go.RowKit Go.Shelf
abbrev e0D:EntT:=⟨⟨#[]⟩,0⟩
abbrev Ahy (w:World) (a:Ω) (c:Nat) (L:List EntT):Prop:=Row w 2 a L.length c (Ao L)
def Ago (e:EntT):EntT:=⟨Aeg e.nm,e.ino⟩
def Ahi (L:List EntT):List EntT:=(List.range 16).map fun i=>Ago (L.getD i e0D)
def Ahn (L:List EntT) (k:Nat):List EntT:=(Ahi L).take k++List.replicate (16-k) e0D
theorem Rn {w:World} {ops:Array Oper} {rest:List Oper} {o:Oper} {act:Act} {Q:Exit→Act→World→Prop} (hgd:o.guard=none) (x y:Operand)
    (ho:o.op=.store 177 x y) (g k:Nat) (hx:act.eval x=.pointer (some ⟨g,k*2,none⟩)) (n:ByteArray) (i:Int) (hy:act.eval y=.agg #[.string n,ν i]) {e:TypeId} {t:List EntT} (hb:Blk w g e (Ao t)) (hk:k<t.length)
    (h:∀ w',Blk w' g e (Ao (t.set k ⟨n,i⟩))→w.grownBy w' (some g)→wpList prog ops Q rest (act.put o.dst undef) w'):wpList prog ops Q (o::rest) act w:=by
  refine IL hgd 177 x y ho g (k*2) hx [.string n,ν i] hy (by rw [CS];rfl) (GW ⟨n,i⟩) hb (by rw [BG];simp;omega) ?_
  intro w' h1 h2
  refine h w' ?_ h2
  have:=LF RL 2 (fun _=>rfl) t k ⟨n,i⟩ hk
  unfold Ao
  rw [this];exact h1
end
section
open Go.RowKit Go.Shelf Go.WideShapes Go.ChangeShapes Go.Deep
theorem EntAt.grown {w w':World} {b off k:Nat} {t:List EntT} (h:EntAt w b off t) (G:w.grownBy w' (some k)) (hne:b≠k):EntAt w' b off t:=
  ⟨Nat.lt_of_lt_of_le h.1 G.size,fun i hi=>⟨(World.cell?_of_block (a:=⟨b,off+i*2,none⟩) (G.block b h.1 (by simpa using hne))).trans (h.2 i hi).1,(World.cell?_of_block (a:=⟨b,off+i*2+1,none⟩) (G.block b h.1 (by simpa using hne))).trans (h.2 i hi).2⟩⟩
end
section
open Go.RowKit Go.Shelf
theorem KV (a b:ByteArray):(a.toList == b.toList)=decide (a=b):=by
  by_cases h:a=b
  · subst h;simp
  · rw [decide_eq_false h]
    exact beq_eq_false_iff_ne.2 (fun q=>h (by rw [ByteArray.toList_eq,ByteArray.toList_eq] at q;exact ByteArray.ext (Array.toList_inj.1 q)))
theorem Ac0 {s:ByteArray} (h:¬ s=⟨#[]⟩):s.toList.isEmpty=false:=by
  rw [← decide_eq_emptyBytes];exact decide_eq_false h
theorem Xf:(⟨#[]⟩:ByteArray).toList.isEmpty=true:=by
  rw [← decide_eq_emptyBytes];exact decide_eq_true rfl
theorem Qb (a:UInt8):(⟨#[a]⟩:ByteArray).toList=[a]:=by rw [ByteArray.toList_eq]
theorem Afa (a b:UInt8):(⟨#[a,b]⟩:ByteArray).toList=[a,b]:=by rw [ByteArray.toList_eq]
def okN (c:Int):Bool:=decide (97≤c∧c≤122)||decide (48≤c∧c≤57)||decide (c=46)||decide (c=95)||decide (c=45)
theorem VD (c:Int):((97≤c∧c≤122)∧okN c=true)∨((48≤c∧c≤57)∧okN c=true)∨(c=46∧okN c=true)∨(c=95∧okN c=true)∨(c=45∧okN c=true) ∨
    ((c<48∧c≠45∧c≠46)∧okN c=false)∨((57<c∧c<97∧c≠95)∧okN c=false)∨(122<c∧okN c=false):=by
  have key:okN c=true↔((97≤c∧c≤122)∨(48≤c∧c≤57)∨c=46∨c=95∨c=45):=by
    unfold okN;simp only [Bool.or_eq_true,decide_eq_true_eq];omega
  have kf:okN c=false↔¬ ((97≤c∧c≤122)∨(48≤c∧c≤57)∨c=46∨c=95∨c=45):=by
    rw [← key];simp
  rw [key,kf];omega
def Rt (s:ByteArray):Bool:=s.data.toList.all (fun b=>okN (b.toNat:Int))
def DJ (s:ByteArray):Bool:=decide (1≤s.size)&&decide (s.size≤12)&&!decide (s=⟨#[46]⟩)&&!decide (s=⟨#[46,46]⟩)&&Rt s
theorem UE (s:ByteArray) (k:Nat) (h:k<s.size):(s.data.toList.take (k+1)).all (fun b=>okN (b.toNat:Int))=((s.data.toList.take k).all (fun b=>okN (b.toNat:Int))&&okN ((s[k]'h).toNat:Int)):=by
  have e:s.data.toList.take (k+1)=s.data.toList.take k++[s[k]]:=by
    rw [List.take_succ_eq_append_getElem (by simpa using h)];rfl
  rw [e,List.all_append];simp
theorem Ru (s:ByteArray) (k:Nat) (h:k<s.size) (hk:okN ((s[k]'h).toNat:Int)=false):Rt s=false:=by
  unfold Rt
  rw [List.all_eq_false]
  refine ⟨s[k],?_,by rw [hk];simp⟩
  exact List.mem_of_getElem? (i:=k) (by simp [h];rfl)
theorem Sg (r:Int) (w:World):Calls prog 175 #[.int .i32 r] w fun e w'=>e=.returned (.bool (okN r))∧w=w':=by
  rcases VD r with ⟨h,hk⟩ | ⟨h,hk⟩ | ⟨h,hk⟩ | ⟨h,hk⟩ | ⟨h,hk⟩ | ⟨h,hk⟩ | ⟨h,hk⟩ | ⟨h,hk⟩
  all_goals
    rw [hk]
    clear hk
  · obtain ⟨h1,h2⟩:=h
    have d1:decide (97≤r)=true:=decide_eq_true h1
    have d2:decide (r≤122)=true:=decide_eq_true h2
    go_enter func175,ntmps175
    go_wp2
    go_ret
    exact ⟨rfl,rfl⟩
  · obtain ⟨h1,h2⟩:=h
    have d1:decide (97≤r)=false:=decide_eq_false ω
    have d3:decide (48≤r)=true:=decide_eq_true h1
    have d4:decide (r≤57)=true:=decide_eq_true h2
    go_enter func175,ntmps175
    go_wp2
    go_ret
    exact ⟨rfl,rfl⟩
  · subst h
    go_enter func175,ntmps175
    go_wp2
    go_ret
    exact ⟨rfl,rfl⟩
  · subst h
    go_enter func175,ntmps175
    go_wp2
    go_ret
    exact ⟨rfl,rfl⟩
  · subst h
    go_enter func175,ntmps175
    go_wp2
    go_ret
    exact ⟨rfl,rfl⟩
  · have d1:decide (97≤r)=false:=decide_eq_false ω
    have d3:decide (48≤r)=false:=decide_eq_false ω
    have e1:(r == 46)=false:=by simp;omega
    have e2:(r == 95)=false:=by simp;omega
    have e3:(r == 45)=false:=by simp;omega
    go_enter func175,ntmps175
    go_wp2
    go_ret
    exact ⟨rfl,rfl⟩
  · have d1:decide (97≤r)=false:=decide_eq_false ω
    have d3:decide (48≤r)=true:=decide_eq_true ω
    have d4:decide (r≤57)=false:=decide_eq_false ω
    have e1:(r == 46)=false:=by simp;omega
    have e2:(r == 95)=false:=by simp;omega
    have e3:(r == 45)=false:=by simp;omega
    go_enter func175,ntmps175
    go_wp2
    go_ret
    exact ⟨rfl,rfl⟩
  · have d1:decide (97≤r)=true:=decide_eq_true ω
    have d2:decide (r≤122)=false:=decide_eq_false ω
    have d3:decide (48≤r)=true:=decide_eq_true ω
    have d4:decide (r≤57)=false:=decide_eq_false ω
    have e1:(r == 46)=false:=by simp;omega
    have e2:(r == 95)=false:=by simp;omega
    have e3:(r == 45)=false:=by simp;omega
    go_enter func175,ntmps175
    go_wp2
    go_ret
    exact ⟨rfl,rfl⟩
theorem Aah {s:ByteArray} (h:¬ s=⟨#[]⟩):1≤s.size:=by
  rcases Nat.eq_zero_or_pos s.size with h0 | h0
  · exact absurd (ByteArray.ext (Array.eq_empty_of_size_eq_zero h0)) h
  · exact h0
theorem Qf (s:ByteArray) (w:World):Calls prog 156 #[.string s] w fun e w'=>e=.returned (.bool (DJ s))∧Below w.heap.size w w':=by
  by_cases h0:s=⟨#[]⟩
  · subst h0
    have het:=Xf
    rw [show DJ ⟨#[]⟩=false from by decide +kernel]
    go_enter func156,ntmps156
    go_wp2
    go_ret
    exact ⟨rfl,Below.refl _ _⟩
  have h1:=Aah h0
  have he:=Ac0 h0
  by_cases h2:s=⟨#[46]⟩
  · subst h2
    rw [show DJ ⟨#[46]⟩=false from by decide +kernel]
    clear h0 h1 
    go_enter func156,ntmps156
    go_wp2
    go_ret
    exact ⟨rfl,Below.refl _ _⟩
  have e2:=KV s ⟨#[46]⟩
  rw [decide_eq_false h2,Qb] at e2
  by_cases h3:s=⟨#[46,46]⟩
  · subst h3
    rw [show DJ ⟨#[46,46]⟩=false from by decide +kernel]
    clear h0 h1 h2
    go_enter func156,ntmps156
    go_wp2
    go_ret
    exact ⟨rfl,Below.refl _ _⟩
  have e3:=KV s ⟨#[46,46]⟩
  rw [decide_eq_false h3,Afa] at e3
  by_cases h4:s.size≤12
  · have hm:DJ s=Rt s:=by unfold DJ;rw [decide_eq_true h1,decide_eq_true h4,decide_eq_false h2,decide_eq_false h3];simp
    rw [hm]
    have d4:decide (12<(s.size:Int))=false:=decide_eq_false ω
    clear hm h0 h2 h3
    go_enter func156,ntmps156
    go_wp2
    go_loopw [2] (fun v wr=>∃ pos:Nat,wr=w.iter s pos∧v=.bool false∧(pos≤s.size∧(s.data.toList.take pos).all (fun b=>okN (b.toNat:Int))=true)) (fun _ wr=>s.size-wr.iterPos w.heap.size)
    case atStart=>exact ⟨0,rfl,rfl,ω,by simp⟩
    case round=>
      obtain ⟨pos,rfl,rfl,hps,hall⟩:=hrel
      by_cases hp:pos<s.size
      · have hts:=UE s pos hp
        rw [hall,Bool.true_and] at hts
        have hfa:=Ru s pos hp
        have hlo:=fun ha=>decode_ascii s pos hp ha
        have hhi:=fun ha=>decode_high s pos hp ha
        have hnx:∀ ty,(Instr.next (π w.heap.size) true ty).run prog (w.iter s pos)=_:=fun ty=>run_next_any w s pos ty hp
        have HIN:=hid (fun w1=>Sg ((Utf8.decode s pos).1:Int) w1)
        have HTS:=hid hts;have HFA:=hid hfa
        clear hts hfa
        rcases Nat.lt_or_ge (s[pos]'hp).toNat 128 with hb | hb
        · have hd:=hlo hb
          rw [hd] at hnx HIN
          clear hlo hhi hd
          generalize (s[pos]'hp).toNat=b at *
          cases hk:okN (b:Int) with
          | true=>
            rw [hk] at HIN HTS
            clear hk
            have HA:=hid hall
            clear hall
            go_wp2_with (go_at_call 175;refine (HIN.out _).mono ?_;rintro e w1 ⟨rfl,rfl⟩)
            go_roundw
            case rel=>exact ⟨pos+1,rfl,rfl,ω,HTS.out⟩
            case measure=>simp;omega
          | false=>
            rw [hk] at HIN
            have HF:=hid (HFA.out hk)
            clear hk hall
            go_wp2_with (go_at_call 175;refine (HIN.out _).mono ?_;rintro e w1 ⟨rfl,rfl⟩)
            go_ret
            exact ⟨AR HF.out.symm,by unfold World.iter;exact (Below.refl _ _).alloc (Nat.le_refl _) _⟩
        · obtain ⟨hd1,hd2⟩:=hhi hb
          have hbl:(s[pos]'hp).toNat<256:=(s[pos]'hp).toNat_lt
          have hk:okN (((s[pos]'hp).toNat:Nat):Int)=false:=by
            unfold okN;simp only [Bool.or_eq_false_iff,decide_eq_false_iff_not];omega
          have hk2:okN (((Utf8.decode s pos).1:Nat):Int)=false:=by
            unfold okN;simp only [Bool.or_eq_false_iff,decide_eq_false_iff_not];omega
          rw [hk2] at HIN
          have HF:=hid (HFA.out hk)
          clear hk hk2 hall hlo hhi hd1 hd2 hb hbl
          generalize (Utf8.decode s pos).1=r at *
          go_wp2_with (go_at_call 175;refine (HIN.out _).mono ?_;rintro e w1 ⟨rfl,rfl⟩)
          go_ret
          exact ⟨AR HF.out.symm,by unfold World.iter;exact (Below.refl _ _).alloc (Nat.le_refl _) _⟩
      · have hnx:∀ ty,(Instr.next (π w.heap.size) true ty).run prog (w.iter s pos)=_:=fun ty=>run_next_end w s pos ty hp
        have hf:Rt s=true:=by
          rw [List.take_of_length_le (by simp;omega)] at hall
          exact hall
        have HF:=hid hf
        clear hf hall
        go_wp2
        go_ret
        exact ⟨AR HF.out.symm,by unfold World.iter;exact (Below.refl _ _).alloc (Nat.le_refl _) _⟩
  · have hm:DJ s=false:=by unfold DJ;rw [decide_eq_false h4];simp
    rw [hm]
    have d4:decide (12<(s.size:Int))=true:=decide_eq_true ω
    clear hm h0 h2 h3
    go_enter func156,ntmps156
    go_wp2
    go_ret
    exact ⟨rfl,Below.refl _ _⟩
end
section
open Go.RowKit Go.Shelf
end
section
open Go.RowKit Go.Shelf
theorem Rv {W w1:World} (hb:Below W.heap.size W w1):(∀ b o,b<W.heap.size→w1.cell? ⟨b,o,none⟩=W.cell? ⟨b,o,none⟩)∧(∀ b o,b<W.heap.size→w1.frozen? ⟨b,o,none⟩=W.frozen? ⟨b,o,none⟩):=
  ⟨fun b o h=>hb.cell (p:=⟨b,o,none⟩) h,fun b o h=>hb.frozen (p:=⟨b,o,none⟩) h⟩
def EU (n:ByteArray) (i:Int):Bool:=decide (n=⟨#[]⟩∧i=0)||(DJ n&&decide (1≤i∧i≤32))
theorem LS (n:ByteArray) (i:Int):((n=⟨#[]⟩∧i=0)∧EU n i=true)∨(¬ (n=⟨#[]⟩∧i=0) ∧
    ((DJ n=false∧EU n i=false)∨(DJ n=true∧((i<1∧EU n i=false)∨((1≤i∧i≤32)∧EU n i=true)∨((1≤i∧32<i)∧EU n i=false))))):=by
  by_cases h:n=⟨#[]⟩∧i=0
  · exact .inl ⟨h,by unfold EU;rw [decide_eq_true h];rfl⟩
  · refine .inr ⟨h,?_⟩
    have e:EU n i=(DJ n&&decide (1≤i∧i≤32)):=by unfold EU;rw [decide_eq_false h];simp
    rw [e]
    cases DJ n with
    | false=>exact .inl ⟨rfl,rfl⟩
    | true=>
      refine .inr ⟨rfl,?_⟩
      rcases (ω:i<1∨(1≤i∧i≤32)∨(1≤i∧32<i)) with g | g | g
      · exact .inl ⟨g,by simp;omega⟩
      · exact .inr (.inl ⟨g,by simp;omega⟩)
      · exact .inr (.inr ⟨g,by simp;omega⟩)
theorem Lt (n:ByteArray) (i:Int) (w:World):Calls prog 166 #[.agg #[.string n,ν i]] w fun e w'=>e=.returned (.bool (EU n i))∧Below w.heap.size w w':=by
  have E:=RN n ⟨#[]⟩ i 0
  have HM:=hid (fun w1=>Qf n w1)
  have hal:=hid (Ck w (.cells #[.string n,ν i] 177))
  rcases LS n i with ⟨h,hk⟩ | ⟨h,⟨hm,hk⟩ | ⟨hm,⟨g,hk⟩ | ⟨g,hk⟩ | ⟨g,hk⟩⟩⟩
  all_goals rw [hk];clear hk
  · rw [decide_eq_true h] at E
    clear h
    go_enter func166,ntmps166
    go_wp2_with fail
    go_ret
    exact ⟨rfl,hal.out⟩
  · rw [decide_eq_false h] at E
    rw [hm] at HM
    clear h hm
    go_enter func166,ntmps166
    go_wp2_with (go_at_call 156;refine (HM.out _).mono ?_;rintro e w1 ⟨rfl,b1⟩;have B1:=hid (Ac hal.out b1);clear b1)
    go_ret
    exact ⟨rfl,B1.out⟩
  · rw [decide_eq_false h] at E
    rw [hm] at HM
    clear h hm
    have d1:decide (1≤i)=false:=decide_eq_false ω
    go_enter func166,ntmps166
    go_wp2_with (go_at_call 156;refine (HM.out _).mono ?_;rintro e w1 ⟨rfl,b1⟩;obtain ⟨c1,f1⟩:=Rv b1;have c2:=(c1 w.heap.size 1 (by simp)).trans (by exact (AN (W:=w) rfl 177 [.string n,ν i]).cell (i:=1) (by simp));have B1:=hid (Ac hal.out b1);clear b1 c1 f1;simp only [List.getElem_cons_succ,List.getElem_cons_zero] at c2)
    go_ret
    exact ⟨rfl,B1.out⟩
  · rw [decide_eq_false h] at E
    rw [hm] at HM
    clear h hm
    have d1:decide (1≤i)=true:=decide_eq_true ω
    have d2:decide (i≤32)=true:=decide_eq_true ω
    go_enter func166,ntmps166
    go_wp2_with (go_at_call 156;refine (HM.out _).mono ?_;rintro e w1 ⟨rfl,b1⟩;obtain ⟨c1,f1⟩:=Rv b1;have c2:=(c1 w.heap.size 1 (by simp)).trans (by exact (AN (W:=w) rfl 177 [.string n,ν i]).cell (i:=1) (by simp));have B1:=hid (Ac hal.out b1);clear b1 c1 f1;simp only [List.getElem_cons_succ,List.getElem_cons_zero] at c2)
    go_ret
    exact ⟨rfl,B1.out⟩
  · rw [decide_eq_false h] at E
    rw [hm] at HM
    clear h hm
    have d1:decide (1≤i)=true:=decide_eq_true ω
    have d2:decide (i≤32)=false:=decide_eq_false ω
    go_enter func166,ntmps166
    go_wp2_with (go_at_call 156;refine (HM.out _).mono ?_;rintro e w1 ⟨rfl,b1⟩;obtain ⟨c1,f1⟩:=Rv b1;have c2:=(c1 w.heap.size 1 (by simp)).trans (by exact (AN (W:=w) rfl 177 [.string n,ν i]).cell (i:=1) (by simp));have B1:=hid (Ac hal.out b1);clear b1 c1 f1;simp only [List.getElem_cons_succ,List.getElem_cons_zero] at c2)
    go_ret
    exact ⟨rfl,B1.out⟩
end
section
open Go.RowKit Go.Shelf
def Fw (n:ByteArray) (i:Int):Λ:=[UInt8.ofNat i.toNat,UInt8.ofNat n.size]++n.data.toList++List.replicate (14-n.size) 0
theorem IW (n:ByteArray) (i:Int) (h:n.size≤14):(Fw n i).length=16:=by
  have:n.data.toList.length=n.size:=by simp
  simp only [Fw,List.length_append,List.length_cons,List.length_nil,List.length_replicate,this];omega
theorem Jh {n:ByteArray} {i:Int} (h:EU n i=true):0≤i∧i≤32∧n.size≤12:=by
  rcases LS n i with ⟨⟨rfl,rfl⟩,_⟩ | ⟨_,⟨_,hk⟩ | ⟨hm,⟨_,hk⟩ | ⟨g,_⟩ | ⟨_,hk⟩⟩⟩
  · exact ⟨ω,ω,by decide⟩
  · rw [h] at hk;cases hk
  · rw [h] at hk;cases hk
  · refine ⟨ω,ω,?_⟩
    unfold DJ at hm
    simp only [Bool.and_eq_true,decide_eq_true_eq] at hm
    exact hm.1.1.1.2
  · rw [h] at hk;cases hk
theorem Wm (n:ByteArray):n.data.toList.length=n.size:=by simp
theorem Ad2 (i:Int) (h:0≤i∧i≤255):Ar [] i 1=[UInt8.ofNat i.toNat]:=by
  unfold Ar Bp
  rw [if_pos rfl,if_pos (by simp;omega)];rfl
theorem Ad3 (x:UInt8) (i:Int) (h:0≤i∧i≤255):Ar [x] i 1=[x,UInt8.ofNat i.toNat]:=by
  unfold Ar Bp
  rw [if_pos rfl,if_pos (by simp;omega)];rfl
theorem VW (k:Nat):List.replicate k (Value.int .u8 0)=(List.replicate k (0:UInt8)).map Ad:=by
  rw [List.map_replicate];rfl
theorem Lu (n:ByteArray) (i:Int) (hi:0≤i∧i≤255) (hn:n.size≤14) (w:World):Calls prog 167 #[.agg #[.string n,ν i]] w (UC w (Fw n i)):=by
  have B0:=hid (Ck w (.cells #[.string n,ν i] 177))
  have K0:=hid (AN (W:=w) rfl 177 [.string n,ν i])
  have P1:=DU none 0 [] i 1 (w.alloc (.cells #[.string n,ν i] 177)) (Row.nil _ _) (by simp) ω
  rw [Ad2 i hi] at P1
  have HX:Hid ([UInt8.ofNat i.toNat,UInt8.ofNat n.size]++n.data.toList++List.replicate (14-n.size) 0=Fw n i):=rfl
  have P2:=fun (a:Ω) (c:Nat) (w1:World) (h:RowB w1 a c [UInt8.ofNat i.toNat])=>DU a c [UInt8.ofNat i.toNat] (n.size:Int) 1 w1 h (by simp) ω
  rw [Ad3 _ (n.size:Int) ⟨ω,ω⟩,show ((n.size:Int)).toNat=n.size by omega] at P2
  generalize UInt8.ofNat i.toNat=x at *
  generalize UInt8.ofNat n.size=y at *
  have P1:=hid P1;have P2:=hid P2
  go_enter func167,ntmps167
  go_wp2_with (go_at_call 84;fail)
  refine (P1.out).mono ?_
  rintro e w1 ⟨a1,c1,rfl,o1,b1⟩
  have K1:=hid (K0.out.mono b1);have B1:=hid (Ac B0.out b1);have O1:=hid o1
  clear o1 b1
  have c10:=K1.out.cell (i:=0) (by simp);have c11:=K1.out.cell (i:=1) (by simp)
  simp only [List.getElem_cons_zero,List.getElem_cons_succ] at c10 c11
  go_wp2_with (go_at_call 84;fail)
  refine (P2.out _ _ _ O1.out.row).mono ?_
  rintro e w2 ⟨a2,c2,rfl,o2,b2⟩
  clear c10 c11
  have K2:=hid (K1.out.mono b2);have B2:=hid (Ac B1.out b2)
  have hs1:w.heap.size≤w1.heap.size:=B1.out.size
  have O2:=hid (show Own w2 w1.heap.size 5 1 a2 2 c2 ([x,y].map Ad) from o2)
  clear o2 b2
  have c20:=K2.out.cell (i:=0) (by simp);have c21:=K2.out.cell (i:=1) (by simp)
  simp only [List.getElem_cons_zero,List.getElem_cons_succ] at c20 c21
  have hlen:=Wm n
  have HLEN:=hid hlen
  have h2s:w1.heap.size≤w2.heap.size:=by
    rcases O2.out.row.at ω with ⟨b,off,e,hlt,_⟩
    have:=O2.out
    obtain ⟨g,rfl⟩:=VG this ω
    obtain ⟨_,_,_,hB,_⟩:=Me this
    cases e;omega
  have t1:True:=trivial
  clear hlen
  go_wp2_with (first
    | (at_builtin;have _t:=t1;(refine MV rfl (.tmp 12) (.tmp 14) rfl υ22 υ9 κ w1.heap.size rfl rfl O2.out ω h2s ?_);clear t1;intro a3 c3 w3 o3 g3 b3;have O3:=hid o3;have B3:=hid (B2.out.trans (b3.mono hs1));have h3s:w1.heap.size≤w3.heap.size:=Nat.le_trans h2s b3.size;clear o3 g3 b3)
    | (at_builtin;(refine De rfl (.tmp 16) (.tmp 19) rfl υ22 υ3 (z:=.int .u8 0) (bytes:=1) κ rfl rfl w1.heap.size (k:=14-n.size) rfl rfl ω O3.out ω ω h3s ?_);intro a4 c4 w4 o4 g4 b4;have O4:=hid o4;have B4:=hid (B3.out.trans (b4.mono hs1));clear o4 g4 b4))
  have hl16:2+n.size+(14-n.size)=(Fw n i).length:=by rw [IW n i hn];omega
  have o4:=O4.out
  rw [VW,← List.map_append,← List.map_append,HX.out,hl16] at o4
  have O5:=hid o4
  have HL:=hid hl16
  clear o4 hl16 O4
  go_ret
  exact ⟨a4,c4,by rw [HL.out];rfl,O5.out.low hs1,B4.out⟩
def WJ (es:List EntT):Option (Λ):=if es.all (fun e=>EU e.nm e.ino) then some (es.flatMap fun e=>Fw e.nm e.ino) else none
def Acn (w:World) (o:Option (Λ)) (e:Ending) (w':World):Prop:=
  ∃ a c,e=.returned (.tuple #[.slice a (o.getD []).length c,ν (if o.isSome then 0 else 1)])∧CF w' w.heap.size a c (o.getD [])∧Below w.heap.size w w'
theorem Ng {w w':World} {o:Option (Λ)} {e:Ending} (ho:o=none) (he:e=.returned (.tuple #[.slice none 0 0,ν 1])) (hb:Below w.heap.size w w'):Acn w o e w':=by
  subst ho;exact ⟨none,0,he,Own.nil _ _ _ _,hb⟩
theorem UD {w w':World} {o:Option (Λ)} {e:Ending} {bs:Λ} {a:Ω} {c:Nat} (ho:o=some bs) (he:e=.returned (.tuple #[.slice a bs.length c,ν 0])) (h:CF w' w.heap.size a c bs) (hb:Below w.heap.size w w'):Acn w o e w':=by
  subst ho;exact ⟨a,c,he,h,hb⟩
def FK (t:List EntT) (k:Int):Option (Λ):=if 0≤k∧k<4 then WJ ((t.drop (4*k.toNat)).take 4) else none
theorem WK {es:List EntT} {j:Nat} (h:j<es.length) (hm:EU es[j].nm es[j].ino=false):WJ es=none:=by
  unfold WJ
  rw [if_neg]
  intro ha
  have:=List.all_eq_true.1 ha es[j] (List.getElem_mem h)
  rw [hm] at this;cases this
theorem UF {es:List EntT} {j:Nat} (h:j<es.length) (ha:(es.take j).all (fun e=>EU e.nm e.ino)=true) (hm:EU es[j].nm es[j].ino=true):(es.take (j+1)).all (fun e=>EU e.nm e.ino)=true:=by
  rw [List.take_succ_eq_append_getElem h,List.all_append,ha];simp [hm]
theorem RY {es:List EntT} {j:Nat} (h:j<es.length):((es.take (j+1)).flatMap fun e=>Fw e.nm e.ino)=((es.take j).flatMap fun e=>Fw e.nm e.ino)++Fw es[j].nm es[j].ino:=by
  rw [List.take_succ_eq_append_getElem h,List.flatMap_append]
  simp only [List.flatMap_cons,List.flatMap_nil,List.append_nil]
theorem Nt:∀ es:List EntT,es.all (fun e=>EU e.nm e.ino)=true→(es.flatMap fun e=>Fw e.nm e.ino).length=16*es.length
  | [],_=>rfl
  | e::r,h=>by
    simp only [List.all_cons,Bool.and_eq_true] at h
    have:=Jh h.1
    rw [List.flatMap_cons,List.length_append,IW _ _ ω,Nt r h.2,List.length_cons];omega
theorem DB (k:Int) (w:World):Calls prog 157 #[ν k] w fun e w'=>e=.returned (.bool (decide (0≤k∧k<4)))∧w=w':=by
  by_cases h0:0≤k
  · by_cases h1:k<4
    · rw [decide_eq_true ⟨h0,h1⟩]
      have d0:decide (0≤k)=true:=decide_eq_true h0
      have d1:decide (k<4)=true:=decide_eq_true h1
      go_enter func157,ntmps157
      go_wp2
      go_ret
      exact ⟨rfl,rfl⟩
    · rw [decide_eq_false (fun h=>h1 h.2)]
      have d0:decide (0≤k)=true:=decide_eq_true h0
      have d1:decide (k<4)=false:=decide_eq_false h1
      go_enter func157,ntmps157
      go_wp2
      go_ret
      exact ⟨rfl,rfl⟩
  · rw [decide_eq_false (fun h=>h0 h.1)]
    have d0:decide (0≤k)=false:=decide_eq_false h0
    go_enter func157,ntmps157
    go_wp2
    go_ret
    exact ⟨rfl,rfl⟩
theorem NV (g q:Nat) (hq:q<4) (w:World):(Instr.sliceAt 179 (π g) (some (ν ((q:Int)*4))) (some (ν (((q:Int)+1)*4))) none).run prog w=.ok (.slice (some ⟨g,8*q,none⟩) 4 (16-4*q)) w:=by
  rcases (ω:q=0∨q=1∨q=2∨q=3) with rfl | rfl | rfl | rfl<;>kernel_rfl
theorem Tm (t:List EntT) (ht:t.length=16) (k:Int) (w:World):Calls prog 147 #[.agg (Ao t).toArray,ν k] w (Acn w (FK t k)):=by
  have HT:=hid ht
  have K0:=hid (AN (W:=w) rfl 179 (Ao t))
  have B0:=hid (Ck w (.cells (Ao t).toArray 179))
  have SZ:=hid (show (w.alloc (.cells (Ao t).toArray 179)).heap.size=w.heap.size+1 by simp)
  clear ht
  by_cases hk:0≤k∧k<4
  · obtain ⟨q,rfl⟩:∃ q:Nat,k=q:=⟨k.toNat,ω⟩
    have hq:q<4:=ω
    have HR:Hid (FK t (q:Int)=WJ ((t.drop (4*q)).take 4)):=if_pos hk
    have HIB:=fun w1=>DB (q:Int) w1
    rw [decide_eq_true hk] at HIB
    have HIB:=hid HIB
    have q4:(q:Int)<4:=ω
    clear hk
    obtain ⟨es,hes⟩:∃ es,es=(t.drop (4*q)).take 4:=⟨_,rfl⟩
    rw [← hes] at HR
    have hel:es.length=4:=by rw [hes,List.length_take,List.length_drop,HT.out];omega
    have hget:∀ j (h:j<es.length),∃ h':4*q+j<t.length,es[j]=t[4*q+j]:=fun j h=>⟨by rw [HT.out];omega,by subst hes;simp⟩
    have HG:=hid hget;have HEL:=hid hel
    clear hes hget hel
    have hsl:=fun w1=>NV w.heap.size q hq w1
    go_enter func147,ntmps147
    go_wp2_with (go_at_call 157;refine (HIB.out _).mono ?_;rintro e w1 ⟨rfl,rfl⟩)
    go_loopw [6,19] (fun b i wr=>∃ (j:Nat) (a1:Ω) (c1 m:Nat),j≤4∧i=ν j∧b=.slice a1 m c1∧m=16*j∧(es.take j).all (fun e=>EU e.nm e.ino)=true∧Own wr (w.heap.size+1) 5 1 a1 m c1 (((es.take j).flatMap fun e=>Fw e.nm e.ino).map Ad)∧Blk wr w.heap.size 179 (Ao t)∧Below w.heap.size w wr∧w.heap.size+1≤wr.heap.size) (fun _ i _=>4-(intOf i).toNat)
    case atStart=>exact ⟨0,none,0,0,ω,rfl,rfl,rfl,rfl,Own.nil _ _ _ _,K0.out,B0.out,by rw [SZ.out];exact Nat.le_refl _⟩
    case round=>
      obtain ⟨j,a1,c1,m,hj,rfl,rfl,hm,hall,ho,hb0,hbl,hsz⟩:=hrel
      clear K0 B0 SZ hsl
      have HO:=hid ho;have HB0:=hid hb0;have HBL:=hid hbl;have HALL:=hid hall;have HM:=hid hm
      have hm64:m≤64:=ω
      clear ho hb0 hbl hall hm
      by_cases hj4:j<4
      · have ij:(j:Int)<4:=ω
        have dj:decide ((j:Int)<4)=true:=decide_eq_true ij
        have hje:j<es.length:=by rw [HEL.out];exact hj4
        obtain ⟨ht4,hte⟩:=HG.out j hje
        have ck:=EE t (4*q+j) ht4
        obtain ⟨hq0,hv0⟩:=List.getElem?_eq_some_iff.1 ck.1
        obtain ⟨hq1,hv1⟩:=List.getElem?_eq_some_iff.1 ck.2
        have c0:wr.cell? ⟨w.heap.size,8*q+j*2,none⟩=some (.string es[j].nm):=by rw [hte,show 8*q+j*2=2*(4*q+j) by omega,HB0.out.cell (i:=2*(4*q+j)) hq0,hv0]
        have c1':wr.cell? ⟨w.heap.size,8*q+j*2+1,none⟩=some (ν es[j].ino):=by rw [hte,show 8*q+j*2+1=2*(4*q+j)+1 by omega,HB0.out.cell (i:=2*(4*q+j)+1) hq1,hv1]
        have hbad:=fun hm=>WK hje hm
        have hgood:=fun hm=>UF hje HALL.out hm
        have hfl:=RY hje
        have hHM:=fun w1=>Lt es[j].nm es[j].ino w1
        have HBAD:=hid hbad;have HGOOD:=hid hgood;have HFL:=hid hfl;have HHM:=hid hHM
        clear hbad hgood hfl hHM hte ck hq0 hq1 hv0 hv1
        generalize es[j].nm=nm at *
        generalize es[j].ino=ino at *
        have KE:=hid (AN (W:=wr) rfl 177 [.string nm,ν ino])
        cases hmm:EU nm ino with
        | false=>
          rw [hmm] at HHM
          have HN:=hid (HBAD.out hmm)
          clear hmm
          go_wp2_with (go_at_call 166;refine (HHM.out _).mono ?_;rintro e w3 ⟨rfl,b3⟩;have B3:=hid (Ac (HBL.out.alloc HBL.out.size _) b3);clear b3)
          go_ret2
          exact Ng (by rw [HR.out,HN.out]) rfl B3.out
        | true=>
          rw [hmm] at HHM
          have hbd:=Jh hmm
          have HG2:=hid (HGOOD.out hmm)
          have HPU:=hid (fun w1=>Lu nm ino ⟨hbd.1,ω⟩ ω w1)
          have hel:=IW nm ino ω
          have HE16:=hid hel
          clear hmm hbd hel
          generalize Fw nm ino=B16 at *
          go_wp2_with (first
            | (go_at_call 166;refine (HHM.out _).mono ?_;rintro e w3 ⟨rfl,b3⟩;have B3:=hid (Ac (HBL.out.alloc HBL.out.size _) b3);have KE3:=hid (KE.out.mono b3);have HO3:=hid ((HO.out.alloc _).mono b3);have HB3:=hid ((HB0.out.mono (Ck _ _)).mono b3);have z3:wr.heap.size+1≤w3.heap.size:=by (have:=b3.size;simpa using this)
               clear b3
               have e30:=KE3.out.cell (i:=0) (by simp);have e31:=KE3.out.cell (i:=1) (by simp)
               simp only [List.getElem_cons_zero,List.getElem_cons_succ] at e30 e31)
            | (go_at_call 167;refine (HPU.out _).mono ?_;rintro e w4 ⟨a4,c4,rfl,o4,b4⟩;have B4:=hid (Ac B3.out b4);have HO4:=hid (HO3.out.mono b4);have HB4:=hid (HB3.out.mono b4);have O4:=hid o4;have z4:wr.heap.size+1≤w4.heap.size:=Nat.le_trans z3 b4.size
               clear b4 o4;rw [HE16.out])
            | (at_builtin;have r4:Row w4 1 a4 16 c4 (B16.map Ad):=by (have:=O4.out.row;rw [HE16.out] at this;exact this)
               (refine CA rfl (.tmp 26) (.tmp 28) rfl E8 (w.heap.size+1) rfl rfl HO4.out r4 (CN B16) ω ω ω ?_)
               intro a5 c5 w5 o5 g5 b5;have O5:=hid o5;have B5:=hid (B4.out.trans (b5.mono ω));have HB5:=hid (HB4.out.below b5 ω);have z5:w.heap.size+1≤w5.heap.size:=by (have:=b5.size;omega)
               clear o5 g5 b5 r4))
          go_roundw
          case rel=>exact ⟨j+1,a5,c5,m+16,ω,by go_num,rfl,by have:=HM.out;omega,HG2.out,by rw [HFL.out,List.map_append];exact O5.out,HB5.out,B5.out,z5⟩
          case measure=>simp [intOf];omega
      · obtain rfl:j=4:=ω
        have dj:decide (((4:Nat):Int)<4)=false:=by decide
        rw [List.take_of_length_le (by rw [HEL.out];omega)] at HO HALL
        have hsome:WJ es=some (es.flatMap fun e=>Fw e.nm e.ino):=if_pos HALL.out
        have hlen:=Nt es HALL.out
        rw [HEL.out,← HM.out] at hlen
        have HS:=hid hsome;have HLN:=hid hlen
        clear hsome hlen
        generalize (es.flatMap fun e=>Fw e.nm e.ino)=bs at *
        go_wp2_with fail
        go_ret2
        exact UD (by rw [HR.out,HS.out]) (by rw [HLN.out];rfl) (by unfold CF;rw [HLN.out];exact HO.out.low ω) HBL.out
  · have HR:Hid (FK t k=none):=if_neg hk
    have HIB:=fun w1=>DB k w1
    rw [decide_eq_false hk] at HIB
    have HIB:=hid HIB
    clear hk
    go_enter func147,ntmps147
    go_wp2_with (go_at_call 157;refine (HIB.out _).mono ?_;rintro e w1 ⟨rfl,rfl⟩)
    go_ret2
    exact Ng HR.out rfl B0.out
end
section
open Go.RowKit Go.Shelf
theorem IM {P:Program} {w:World} {o:Oper} {act:Act} {K:Act→World→Prop} {Q:Exit→Act→World→Prop} (T:TypeId) (x y:Operand)
    (ho:o.op=.store T x y) (g off:Nat) (hx:act.eval x=.pointer (some ⟨g,off,none⟩)) {e:TypeId} (vs:List Value) (hy:act.eval y=.agg vs.toArray) (hn:(P.info? T).map (·.size)=some vs.length) (h1:∀ v∈vs,v.oneCell'=true) {L:List Value} (hb:Blk w g e L) (hL:off+vs.length≤L.length)
    (h:∀ w',Blk w' g e (splice L off vs)→w.grownBy w' (some g)→K (act.put o.dst undef) w'):o.wp P act w K Q:=by
  refine wp_store_mid T x y ho g off vs.toArray hx hy (by simpa using hb.there off vs.length hL) (by simpa using hn) (all_oneCell_toArray h1) ?_
  obtain ⟨h2,h3⟩:=Blk.setCells vs off w L hb hL
  exact h _ h2 h3
def nmR (bs:Λ):ByteArray:=⟨((bs.drop 2).take (bAt bs 1)).toArray⟩
def KL (bs:Λ):Option EntT:=if bAt bs 1≤12∧EU (nmR bs) (bAt bs 0)=true∧(bs.drop (2+bAt bs 1)).all (fun b=>b == 0)=true then some ⟨nmR bs,bAt bs 0⟩ else none
theorem LW {bs:Λ} (h:bs.length=16) (hn:bAt bs 1≤14):(nmR bs).size=bAt bs 1:=by
  show ((bs.drop 2).take (bAt bs 1)).toArray.size=_
  simp;omega
theorem Aez {bs:Λ} (h:bs.length=16):bs=[UInt8.ofNat (bAt bs 0),UInt8.ofNat (bAt bs 1)]++bs.drop 2:=by
  match bs,h with
  | x::y::r,_=>simp [bAt]
theorem Xl {bs:Λ} (h:bs.length=16) (hn:bAt bs 1≤14):Fw (nmR bs) (bAt bs 0)=bs↔(bs.drop (2+bAt bs 1)).all (fun b=>b == 0)=true:=by
  have hs:=LW h hn
  have e1:(nmR bs).data.toList=(bs.drop 2).take (bAt bs 1):=by simp [nmR]
  have e0:((bAt bs 0:Nat):Int).toNat=bAt bs 0:=ω
  have hd:bs=[UInt8.ofNat (bAt bs 0),UInt8.ofNat (bAt bs 1)]++((bs.drop 2).take (bAt bs 1)++bs.drop (2+bAt bs 1)):=by
    have:=Aez h
    rw [show bs.drop (2+bAt bs 1)=(bs.drop 2).drop (bAt bs 1) by rw [List.drop_drop]]
    rw [List.take_append_drop];exact this
  have hl:(bs.drop (2+bAt bs 1)).length=14-bAt bs 1:=by rw [List.length_drop];omega
  unfold Fw
  rw [hs,e1,e0,List.append_assoc]
  constructor
  · intro he
    have:=List.append_cancel_left (List.append_cancel_left (he.trans hd))
    rw [← this]
    simp
  · intro ha
    have hz:bs.drop (2+bAt bs 1)=List.replicate (14-bAt bs 1) 0:=by
      rw [← hl]
      exact List.eq_replicate_of_mem (fun b hb=>by simpa using List.all_eq_true.1 ha b hb)
    rw [← hz];exact hd.symm
theorem Xb {bs:Λ} (h:¬ bAt bs 1≤12):KL bs=none:=if_neg (fun q=>h q.1)
theorem ZJ {bs:Λ} (h:bs.length=16) (hn:bAt bs 1≤14):KL bs=if EU (nmR bs) (bAt bs 0)=true∧Fw (nmR bs) (bAt bs 0)=bs then some ⟨nmR bs,bAt bs 0⟩ else none:=by
  unfold KL
  by_cases hm:EU (nmR bs) (bAt bs 0)=true
  · have:=(Jh hm).2.2
    rw [LW h hn] at this
    have hi:=Xl h hn
    by_cases he:Fw (nmR bs) (bAt bs 0)=bs
    · rw [if_pos ⟨this,hm,hi.1 he⟩,if_pos ⟨hm,he⟩]
    · rw [if_neg (fun q=>he (hi.2 q.2.2)),if_neg (fun q=>he q.2)]
  · rw [if_neg (fun q=>hm q.2.1),if_neg (fun q=>hm q.1)]
theorem PN {xs:Λ} (i:Nat) (h:i<xs.length):AC xs (i:Int) 1=some (bAt xs i):=by
  have e:(xs.drop i).take 1=[xs[i]]:=by
    rw [List.drop_eq_getElem_cons h];rfl
  have hb:=EH xs i
  unfold AC
  rw [if_pos ⟨by decide,ω,ω⟩,show ((i:Int)).toNat=i by omega,show ((1:Int)).toNat=1 by omega,e]
  have:BL [xs[i]]=bAt xs i:=by simp [BL,DL h]
  rw [this,if_pos ω]
def Aen (w:World) (bs:Λ) (e:Ending) (w':World):Prop:=
  ∃ (nm:ByteArray) (ino:Int) (b:Bool),e=.returned (.tuple #[.agg #[.string nm,ν ino],.bool b])∧(b=true→KL bs=some ⟨nm,ino⟩)∧(b=false→KL bs=none)∧Below w.heap.size w w'
theorem FC {fn:Func} {c u:Tmp} (h:fn.results=#[.cell c 177,.tmp u]) {tmps:Array Value} {w:World} {g:Nat} {e:TypeId} {n:ByteArray} {i:Int} (hc:tmps.getD c undef=π g) (hb:Blk w g e [.string n,ν i]) :
    (results fn tmps).run prog w=.ok (.tuple #[.agg #[.string n,ν i],tmps.getD u undef]) w:=
  BX h hc hb υ177 rfl (by rw [CS];rfl)
theorem UT (b off c:Nat) (bs:Λ) (hbs:bs.length=16) (w:World) (hr:RowB w (some ⟨b,off,none⟩) c bs):Calls prog 158 #[.slice (some ⟨b,off,none⟩) 16 c] w (Aen w bs):=by
  have hc16:16≤c:=by have:=hr.2.1;omega
  have hc9:c≤9223372036854775807:=by have:=hr.2.2.1;unfold maxLen at this;omega
  have K0:=hid (AN (W:=w) rfl 177 [.string ⟨#[]⟩,ν 0])
  have B0:=hid (Ck w (.cells #[.string ⟨#[]⟩,ν 0] 177))
  have HROW:=hid hr
  have HG0:=DP (some ⟨b,off,none⟩) c bs 0 1 (w.alloc (.cells #[.string ⟨#[]⟩,ν 0] 177)) (hr.alloc _) ω
  have HG1:=DP (some ⟨b,off,none⟩) c bs 1 1 (w.alloc (.cells #[.string ⟨#[]⟩,ν 0] 177)) (hr.alloc _) ω
  rw [show (0:Int)=((0:Nat):Int) from rfl,PN 0 ω,hbs] at HG0
  rw [show AC bs (1:Int) 1=some (bAt bs 1) from PN 1 ω,hbs] at HG1
  unfold KN at HG0 HG1
  simp only [Option.getD_some,Option.isSome_some,Int.ofNat_zero] at HG0 HG1
  have HG0:=hid HG0;have HG1:=hid HG1
  have l0:=EH bs 0;have l1:=EH bs 1
  have hr':=hr
  clear hr
  by_cases hn:bAt bs 1≤14
  · have hs:=LW hbs hn
    have hdr:=ZJ hbs hn
    have hrs:=Mw (show RowB (w.alloc (.cells #[.string ⟨#[]⟩,ν 0] 177)) (some ⟨b,off,none⟩) c bs from hr'.alloc _) 2 (bAt bs 1) ω
    have hcv:=Gy hrs
    have hln:((bs.drop 2).take (bAt bs 1)).length=bAt bs 1:=by simp;omega
    rw [hln] at hcv
    have hcv':(convert 22 9 (.slice (some ⟨b,off+2,none⟩) (bAt bs 1) (c-2))).run prog (w.alloc (.cells #[.string ⟨#[]⟩,ν 0] 177))=.ok (.string (nmR bs)) (w.alloc (.cells #[.string ⟨#[]⟩,ν 0] 177)):=hcv
    have HM:=fun w1=>Lt (nmR bs) (bAt bs 0) w1
    have HPU:=fun (hm:EU (nmR bs) (bAt bs 0)=true) w1=>Lu (nmR bs) (bAt bs 0) ⟨ω,ω⟩ (by have:=(Jh hm).2.2;omega) w1
    have HE16:EU (nmR bs) (bAt bs 0)=true→(Fw (nmR bs) (bAt bs 0)).length=16:=fun hm=>IW _ _ (by have:=(Jh hm).2.2;omega)
    have HEQ:=fun (a:Ω) (c':Nat) (w1:World) (h1:RowB w1 a c' (Fw (nmR bs) (bAt bs 0))) (h2:RowB w1 (some ⟨b,off,none⟩) c bs)=>Nq a (some ⟨b,off,none⟩) c' c (Fw (nmR bs) (bAt bs 0)) bs w1 h1 h2
    have HDR:=hid hdr;have HSZ:=hid hs
    clear hrs hcv hdr hs hln
    have d1:decide (14<((bAt bs 1:Nat):Int))=false:=decide_eq_false ω
    have i1:¬ 14<((bAt bs 1:Nat):Int):=ω
    have hc2:¬ c=2:=ω
    generalize Fw (nmR bs) (bAt bs 0)=EB at *
    generalize nmR bs=nm at *
    generalize bAt bs 0=x at *
    generalize bAt bs 1=n at *
    have W1:Hid (Below w.heap.size w ((w.alloc (.cells #[.string ⟨#[]⟩,ν 0] 177)).alloc (.cells #[.string nm,ν (x:Int)] 177))):=hid (B0.out.alloc B0.out.size _)
    have KE:=hid (AN (W:=w.alloc (.cells #[.string ⟨#[]⟩,ν 0] 177)) (n:=w.heap.size+1) (by simp) 177 [.string nm,ν (x:Int)])
    have K1:=hid (K0.out.mono (Ck _ (.cells #[.string nm,ν (x:Int)] 177)))
    have HRG:Hid (∀ (X Y:World) (L:List Value),X.rangeAt (w.heap.size+1) 0 L→X.grownBy Y (some w.heap.size)→Y.rangeAt (w.heap.size+1) 0 L):=hid (fun X Y L h g j u hu=>(World.cell?_of_block (a:=⟨w.heap.size+1,0+j,none⟩) (g.block _ (World.block_lt_of_cell? X _ (h j u hu)) (by simp))).trans (h j u hu))
    have HSTEP:Hid (∀ X Y:World,(X.rangeAt (w.heap.size+1) 0 [.string nm,ν (x:Int)]∧(∃ L2,Blk X w.heap.size 177 L2∧L2.length=2)∧Below w.heap.size w X∧w.heap.size+2≤X.heap.size)→Below X.heap.size X Y→(Y.rangeAt (w.heap.size+1) 0 [.string nm,ν (x:Int)]∧(∃ L2,Blk Y w.heap.size 177 L2∧L2.length=2)∧Below w.heap.size w Y∧w.heap.size+2≤Y.heap.size)):=
      hid (fun X Y h b=>⟨KC h.1 b,⟨h.2.1.choose,h.2.1.choose_spec.1.mono b,h.2.1.choose_spec.2⟩,Ac h.2.2.1 b,Nat.le_trans h.2.2.2 b.size⟩)
    go_enter func158,ntmps158
    go_wp2_with (go_at_call 74;fail)
    refine (HG0.out).mono ?_
    rintro e w1 ⟨rfl,rfl⟩
    go_wp2_with (go_at_call 74;fail)
    refine (HG1.out).mono ?_
    rintro e w1 ⟨rfl,rfl⟩
    go_wp2_with fail
    have hS0:((w.alloc (.cells #[.string ⟨#[]⟩,ν 0] 177)).alloc (.cells #[.string nm,ν (x:Int)] 177)).drew.rangeAt (w.heap.size+1) 0 [.string nm,ν (x:Int)]∧(∃ L2,Blk ((w.alloc (.cells #[.string ⟨#[]⟩,ν 0] 177)).alloc (.cells #[.string nm,ν (x:Int)] 177)).drew w.heap.size 177 L2∧L2.length=2)∧Below w.heap.size w ((w.alloc (.cells #[.string ⟨#[]⟩,ν 0] 177)).alloc (.cells #[.string nm,ν (x:Int)] 177)).drew∧w.heap.size+2≤((w.alloc (.cells #[.string ⟨#[]⟩,ν 0] 177)).alloc (.cells #[.string nm,ν (x:Int)] 177)).drew.heap.size:=
      ⟨Blk.range (Blk.drew KE.out),⟨_,Blk.drew K1.out,rfl⟩,W1.out.drew,by show w.heap.size+2≤((w.alloc _).alloc _).heap.size;simp⟩
    clear hcv' hc2
    cases hm:EU nm (x:Int) with
    | false=>
      rw [hm] at HM
      have HD:Hid (KL bs=none):=hid (by rw [HDR.out,if_neg (fun q=>by rw [hm] at q;cases q.1)])
      have HM:=hid HM
      clear hm HPU HE16 HEQ
      refine wp_region_held_drew (S:=fun w'=>w'.rangeAt (w.heap.size+1) 0 [.string nm,ν (x:Int)]∧(∃ L2,Blk w' w.heap.size 177 L2∧L2.length=2)∧Below w.heap.size w w'∧w.heap.size+2≤w'.heap.size) κ hS0 (fun hS_0=>?_)
      refine BY (i:=0) 177 _ ((w.heap.size+1)) 0 [.string nm,ν (x:Int)] _ rfl rfl rfl rfl (Eq.refl true) υ177 rfl (by rw [CS];rfl) κ κ κ (fun _ _ _ h=>h) (fun w' h'=>h'.1) hS_0 ?_
      (try simp only [Act.put,List.setIfInBounds_toArray,List.set_cons_zero,List.set_cons_succ])
      refine BY (i:=1) 177 _ ((w.heap.size+1)) 0 [.string nm,ν (x:Int)] _ rfl rfl rfl rfl (Eq.refl true) υ177 rfl (by rw [CS];rfl) κ κ κ (fun _ _ _ h=>h) (fun w' h'=>h'.1) hS_0 ?_
      (try simp only [Act.put,List.setIfInBounds_toArray,List.set_cons_zero,List.set_cons_succ])
      refine wpAnyH_ready (rs:=[2]) κ (by simp) (AllReadyH.cons rfl (fun K hK=>?_) AllReadyH.nil)
      go_simp
      go_wp2_with (go_at_call 166;refine (HM.out _).mono ?_;rintro e w5 ⟨rfl,b5⟩)
      refine hK.out _ _ ?_ (fun hS_1=>?_)
      · exact HSTEP.out _ _ hS_0 b5
      clear hK K
      refine Bc (i:=3) (v:=.bool false) rfl rfl κ κ κ (fun _ _ _ h=>h) (Or.inl ⟨Eq.refl true,fun w1 hSw=>?_⟩) hS_1 ?_
      · first | rfl | (clear hSw;go_simp;done) | (clear hSw;go_simp;rfl)
      (try simp only [Act.put,List.setIfInBounds_toArray,List.set_cons_zero,List.set_cons_succ])
      refine Bc (i:=4) (v:=undef) rfl rfl κ κ κ (fun _ _ _ h=>h) (Or.inr ⟨Eq.refl false,rfl⟩) hS_1 ?_
      (try simp only [Act.put,List.setIfInBounds_toArray,List.set_cons_zero,List.set_cons_succ])
      refine Bc (i:=5) (v:=undef) rfl rfl κ κ κ (fun _ _ _ h=>h) (Or.inr ⟨Eq.refl false,rfl⟩) hS_1 ?_
      (try simp only [Act.put,List.setIfInBounds_toArray,List.set_cons_zero,List.set_cons_succ])
      refine Bc (i:=6) (v:=undef) rfl rfl κ κ κ (fun _ _ _ h=>h) (Or.inr ⟨Eq.refl false,rfl⟩) hS_1 ?_
      (try simp only [Act.put,List.setIfInBounds_toArray,List.set_cons_zero,List.set_cons_succ])
      refine Bc (i:=7) (v:=undef) rfl rfl κ κ κ (fun _ _ _ h=>h) (Or.inr ⟨Eq.refl false,rfl⟩) hS_1 ?_
      (try simp only [Act.put,List.setIfInBounds_toArray,List.set_cons_zero,List.set_cons_succ])
      refine Bc (i:=8) (v:=.bool false) rfl rfl κ κ κ (fun _ _ _ h=>h) (Or.inl ⟨Eq.refl true,fun w1 hSw=>?_⟩) hS_1 ?_
      · first | rfl | (clear hSw;go_simp;done) | (clear hSw;go_simp;rfl)
      (try simp only [Act.put,List.setIfInBounds_toArray,List.set_cons_zero,List.set_cons_succ])
      refine wpAnyH_ready (rs:=[9]) κ (by simp) (AllReadyH.cons rfl (fun K hK=>?_) AllReadyH.nil)
      refine Bo (Eq.refl true) ?_
      obtain ⟨L2,hb2,hl2⟩:=hS_1.2.1;refine IM 177 _ _ rfl w.heap.size 0 rfl [.string nm,ν (x:Int)] rfl (by rw [CS];rfl) (GW ⟨nm,x⟩) hb2 (by rw [hl2];exact Nat.le_refl 2) ?_;intro w9 k9 g9;rw [Dw (by rw [hl2];rfl)] at k9;have K9:=hid k9;have G9:=hid g9
      refine hK.out _ _ ?_ (fun hS_2=>?_)
      · exact ⟨HRG.out _ _ _ hS_1.1 g9,⟨_,k9,rfl⟩,Cg hS_1.2.2.1 g9 (Nat.le_refl _) hS_1.2.2.1.size,Nat.le_trans hS_1.2.2.2 g9.size⟩
      clear hK K
      refine Bc (i:=10) (v:=.bool false) rfl rfl κ κ κ (fun _ _ _ h=>h) (Or.inl ⟨Eq.refl true,fun w1 hSw=>?_⟩) hS_2 ?_
      · first | rfl | (clear hSw;go_simp;done) | (clear hSw;go_simp;rfl)
      (try simp only [Act.put,List.setIfInBounds_toArray,List.set_cons_zero,List.set_cons_succ])
      refine wpAnyH_done κ ?_ _
      go_wp2_with fail
      refine bodyPost_ret (FC rfl rfl K9.out) rfl ⟨nm,x,false,rfl,(fun h=>by cases h),(fun _=>HD.out),hS_2.2.2.1⟩
    | true=>
      rw [hm] at HM
      have HPU:=hid (HPU hm);have HE16:=hid (HE16 hm)
      by_cases hq:EB=bs
      · have HD:Hid (KL bs=some ⟨nm,x⟩):=hid (by rw [HDR.out,if_pos ⟨hm,hq⟩])
        have HEQ':=fun a c' w1 h1 h2=>HEQ a c' w1 h1 h2
        rw [decide_eq_true hq,HE16.out,hbs] at HEQ'
        have HEQ:=hid HEQ'
        have HM:=hid HM
        clear hm hq HEQ'
        refine wp_region_held_drew (S:=fun w'=>w'.rangeAt (w.heap.size+1) 0 [.string nm,ν (x:Int)]∧(∃ L2,Blk w' w.heap.size 177 L2∧L2.length=2)∧Below w.heap.size w w'∧w.heap.size+2≤w'.heap.size) κ hS0 (fun hS_0=>?_)
        refine BY (i:=0) 177 _ ((w.heap.size+1)) 0 [.string nm,ν (x:Int)] _ rfl rfl rfl rfl (Eq.refl true) υ177 rfl (by rw [CS];rfl) κ κ κ (fun _ _ _ h=>h) (fun w' h'=>h'.1) hS_0 ?_
        (try simp only [Act.put,List.setIfInBounds_toArray,List.set_cons_zero,List.set_cons_succ])
        refine BY (i:=1) 177 _ ((w.heap.size+1)) 0 [.string nm,ν (x:Int)] _ rfl rfl rfl rfl (Eq.refl true) υ177 rfl (by rw [CS];rfl) κ κ κ (fun _ _ _ h=>h) (fun w' h'=>h'.1) hS_0 ?_
        (try simp only [Act.put,List.setIfInBounds_toArray,List.set_cons_zero,List.set_cons_succ])
        refine wpAnyH_ready (rs:=[2]) κ (by simp) (AllReadyH.cons rfl (fun K hK=>?_) AllReadyH.nil)
        go_simp
        go_wp2_with (go_at_call 166;refine (HM.out _).mono ?_;rintro e w5 ⟨rfl,b5⟩)
        refine hK.out _ _ ?_ (fun hS_1=>?_)
        · exact HSTEP.out _ _ hS_0 b5
        clear hK K
        refine Bc (i:=3) (v:=.bool true) rfl rfl κ κ κ (fun _ _ _ h=>h) (Or.inl ⟨Eq.refl true,fun w1 hSw=>?_⟩) hS_1 ?_
        · first | rfl | (clear hSw;go_simp;done) | (clear hSw;go_simp;rfl)
        (try simp only [Act.put,List.setIfInBounds_toArray,List.set_cons_zero,List.set_cons_succ])
        refine BY (i:=4) 177 _ ((w.heap.size+1)) 0 [.string nm,ν (x:Int)] _ rfl rfl rfl rfl (Eq.refl true) υ177 rfl (by rw [CS];rfl) κ κ κ (fun _ _ _ h=>h) (fun w' h'=>h'.1) hS_1 ?_
        (try simp only [Act.put,List.setIfInBounds_toArray,List.set_cons_zero,List.set_cons_succ])
        refine Bc (i:=6) (v:=.slice (some ⟨b,off,none⟩) 16 c) rfl rfl κ κ κ (fun _ _ _ h=>h) (Or.inl ⟨Eq.refl true,fun w1 hSw=>?_⟩) hS_1 ?_
        · first | rfl | (clear hSw;go_simp;done) | (clear hSw;go_simp;rfl)
        (try simp only [Act.put,List.setIfInBounds_toArray,List.set_cons_zero,List.set_cons_succ])
        refine wpAnyH_ready (rs:=[5]) κ (by simp) (AllReadyH.cons rfl (fun K hK=>?_) AllReadyH.nil)
        go_simp
        go_wp2_with (go_at_call 167;refine (HPU.out _).mono ?_;rintro e w6 ⟨a6,c6,rfl,o6,b6⟩;rw [HE16.out])
        refine hK.out _ _ ?_ (fun hS_2=>?_)
        · exact HSTEP.out _ _ hS_1 b6
        clear hK K
        refine wpAnyH_ready (rs:=[7]) κ (by simp) (AllReadyH.cons rfl (fun K hK=>?_) AllReadyH.nil)
        go_simp
        go_wp2_with (go_at_call 105;refine (HEQ.out a6 c6 _ (by have:=o6.row;exact this) ((HROW.out.mono hS_2.2.2.1))).mono ?_;rintro e w7 ⟨rfl,rfl⟩)
        refine hK.out _ _ ?_ (fun hS_3=>?_)
        · exact hS_2
        clear hK K
        refine Bc (i:=8) (v:=.bool true) rfl rfl κ κ κ (fun _ _ _ h=>h) (Or.inl ⟨Eq.refl true,fun w1 hSw=>?_⟩) hS_3 ?_
        · first | rfl | (clear hSw;go_simp;done) | (clear hSw;go_simp;rfl)
        (try simp only [Act.put,List.setIfInBounds_toArray,List.set_cons_zero,List.set_cons_succ])
        refine wpAnyH_ready (rs:=[9]) κ (by simp) (AllReadyH.cons rfl (fun K hK=>?_) AllReadyH.nil)
        refine Bo (Eq.refl true) ?_
        obtain ⟨L2,hb2,hl2⟩:=hS_3.2.1;refine IM 177 _ _ rfl w.heap.size 0 rfl [.string nm,ν (x:Int)] rfl (by rw [CS];rfl) (GW ⟨nm,x⟩) hb2 (by rw [hl2];exact Nat.le_refl 2) ?_;intro w9 k9 g9;rw [Dw (by rw [hl2];rfl)] at k9;have K9:=hid k9;have G9:=hid g9
        refine hK.out _ _ ?_ (fun hS_4=>?_)
        · exact ⟨HRG.out _ _ _ hS_3.1 g9,⟨_,k9,rfl⟩,Cg hS_3.2.2.1 g9 (Nat.le_refl _) hS_3.2.2.1.size,Nat.le_trans hS_3.2.2.2 g9.size⟩
        clear hK K
        refine Bc (i:=10) (v:=.bool true) rfl rfl κ κ κ (fun _ _ _ h=>h) (Or.inl ⟨Eq.refl true,fun w1 hSw=>?_⟩) hS_4 ?_
        · first | rfl | (clear hSw;go_simp;done) | (clear hSw;go_simp;rfl)
        (try simp only [Act.put,List.setIfInBounds_toArray,List.set_cons_zero,List.set_cons_succ])
        refine wpAnyH_done κ ?_ _
        go_wp2_with fail
        refine bodyPost_ret (FC rfl rfl K9.out) rfl ⟨nm,x,true,rfl,fun _=>HD.out,(fun h=>by cases h),hS_4.2.2.1⟩
      · have HD:Hid (KL bs=none):=hid (by rw [HDR.out,if_neg (fun q=>hq q.2)])
        have HEQ':=fun a c' w1 h1 h2=>HEQ a c' w1 h1 h2
        rw [decide_eq_false hq,HE16.out,hbs] at HEQ'
        have HEQ:=hid HEQ'
        have HM:=hid HM
        clear hm hq HEQ'
        refine wp_region_held_drew (S:=fun w'=>w'.rangeAt (w.heap.size+1) 0 [.string nm,ν (x:Int)]∧(∃ L2,Blk w' w.heap.size 177 L2∧L2.length=2)∧Below w.heap.size w w'∧w.heap.size+2≤w'.heap.size) κ hS0 (fun hS_0=>?_)
        refine BY (i:=0) 177 _ ((w.heap.size+1)) 0 [.string nm,ν (x:Int)] _ rfl rfl rfl rfl (Eq.refl true) υ177 rfl (by rw [CS];rfl) κ κ κ (fun _ _ _ h=>h) (fun w' h'=>h'.1) hS_0 ?_
        (try simp only [Act.put,List.setIfInBounds_toArray,List.set_cons_zero,List.set_cons_succ])
        refine BY (i:=1) 177 _ ((w.heap.size+1)) 0 [.string nm,ν (x:Int)] _ rfl rfl rfl rfl (Eq.refl true) υ177 rfl (by rw [CS];rfl) κ κ κ (fun _ _ _ h=>h) (fun w' h'=>h'.1) hS_0 ?_
        (try simp only [Act.put,List.setIfInBounds_toArray,List.set_cons_zero,List.set_cons_succ])
        refine wpAnyH_ready (rs:=[2]) κ (by simp) (AllReadyH.cons rfl (fun K hK=>?_) AllReadyH.nil)
        go_simp
        go_wp2_with (go_at_call 166;refine (HM.out _).mono ?_;rintro e w5 ⟨rfl,b5⟩)
        refine hK.out _ _ ?_ (fun hS_1=>?_)
        · exact HSTEP.out _ _ hS_0 b5
        clear hK K
        refine Bc (i:=3) (v:=.bool true) rfl rfl κ κ κ (fun _ _ _ h=>h) (Or.inl ⟨Eq.refl true,fun w1 hSw=>?_⟩) hS_1 ?_
        · first | rfl | (clear hSw;go_simp;done) | (clear hSw;go_simp;rfl)
        (try simp only [Act.put,List.setIfInBounds_toArray,List.set_cons_zero,List.set_cons_succ])
        refine BY (i:=4) 177 _ ((w.heap.size+1)) 0 [.string nm,ν (x:Int)] _ rfl rfl rfl rfl (Eq.refl true) υ177 rfl (by rw [CS];rfl) κ κ κ (fun _ _ _ h=>h) (fun w' h'=>h'.1) hS_1 ?_
        (try simp only [Act.put,List.setIfInBounds_toArray,List.set_cons_zero,List.set_cons_succ])
        refine Bc (i:=6) (v:=.slice (some ⟨b,off,none⟩) 16 c) rfl rfl κ κ κ (fun _ _ _ h=>h) (Or.inl ⟨Eq.refl true,fun w1 hSw=>?_⟩) hS_1 ?_
        · first | rfl | (clear hSw;go_simp;done) | (clear hSw;go_simp;rfl)
        (try simp only [Act.put,List.setIfInBounds_toArray,List.set_cons_zero,List.set_cons_succ])
        refine wpAnyH_ready (rs:=[5]) κ (by simp) (AllReadyH.cons rfl (fun K hK=>?_) AllReadyH.nil)
        go_simp
        go_wp2_with (go_at_call 167;refine (HPU.out _).mono ?_;rintro e w6 ⟨a6,c6,rfl,o6,b6⟩;rw [HE16.out])
        refine hK.out _ _ ?_ (fun hS_2=>?_)
        · exact HSTEP.out _ _ hS_1 b6
        clear hK K
        refine wpAnyH_ready (rs:=[7]) κ (by simp) (AllReadyH.cons rfl (fun K hK=>?_) AllReadyH.nil)
        go_simp
        go_wp2_with (go_at_call 105;refine (HEQ.out a6 c6 _ (by have:=o6.row;exact this) ((HROW.out.mono hS_2.2.2.1))).mono ?_;rintro e w7 ⟨rfl,rfl⟩)
        refine hK.out _ _ ?_ (fun hS_3=>?_)
        · exact hS_2
        clear hK K
        refine Bc (i:=8) (v:=.bool false) rfl rfl κ κ κ (fun _ _ _ h=>h) (Or.inl ⟨Eq.refl true,fun w1 hSw=>?_⟩) hS_3 ?_
        · first | rfl | (clear hSw;go_simp;done) | (clear hSw;go_simp;rfl)
        (try simp only [Act.put,List.setIfInBounds_toArray,List.set_cons_zero,List.set_cons_succ])
        refine wpAnyH_ready (rs:=[9]) κ (by simp) (AllReadyH.cons rfl (fun K hK=>?_) AllReadyH.nil)
        refine Bo (Eq.refl true) ?_
        obtain ⟨L2,hb2,hl2⟩:=hS_3.2.1;refine IM 177 _ _ rfl w.heap.size 0 rfl [.string nm,ν (x:Int)] rfl (by rw [CS];rfl) (GW ⟨nm,x⟩) hb2 (by rw [hl2];exact Nat.le_refl 2) ?_;intro w9 k9 g9;rw [Dw (by rw [hl2];rfl)] at k9;have K9:=hid k9;have G9:=hid g9
        refine hK.out _ _ ?_ (fun hS_4=>?_)
        · exact ⟨HRG.out _ _ _ hS_3.1 g9,⟨_,k9,rfl⟩,Cg hS_3.2.2.1 g9 (Nat.le_refl _) hS_3.2.2.1.size,Nat.le_trans hS_3.2.2.2 g9.size⟩
        clear hK K
        refine Bc (i:=10) (v:=.bool false) rfl rfl κ κ κ (fun _ _ _ h=>h) (Or.inl ⟨Eq.refl true,fun w1 hSw=>?_⟩) hS_4 ?_
        · first | rfl | (clear hSw;go_simp;done) | (clear hSw;go_simp;rfl)
        (try simp only [Act.put,List.setIfInBounds_toArray,List.set_cons_zero,List.set_cons_succ])
        refine wpAnyH_done κ ?_ _
        go_wp2_with fail
        refine bodyPost_ret (FC rfl rfl K9.out) rfl ⟨nm,x,false,rfl,(fun h=>by cases h),(fun _=>HD.out),hS_4.2.2.1⟩
  · have HD:=hid (Xb (bs:=bs) ω)
    have d1:decide (14<((bAt bs 1:Nat):Int))=true:=decide_eq_true ω
    generalize bAt bs 0=x at *
    generalize bAt bs 1=n at *
    go_enter func158,ntmps158
    go_wp2_with (go_at_call 74;fail)
    refine (HG0.out).mono ?_
    rintro e w1 ⟨rfl,rfl⟩
    go_wp2_with (go_at_call 74;fail)
    refine (HG1.out).mono ?_
    rintro e w1 ⟨rfl,rfl⟩
    go_wp2_with fail
    refine bodyPost_ret (FC rfl rfl K0.out) rfl ⟨_,_,false,rfl,(fun h=>by cases h),(fun _=>HD.out),B0.out⟩
end
section
open Go.RowKit Go.Shelf
def Lm (bs:Λ) (i:Nat):Λ:=(bs.drop (16*i)).take 16
theorem UP {bs:Λ} (h:64≤bs.length) {i:Nat} (hi:i<4):(Lm bs i).length=16:=by
  unfold Lm;rw [List.length_take,List.length_drop];omega
def rdF (bs:Λ):Nat→Option (List EntT)
  | 0=>some []
  | j+1=>match rdF bs j,KL (Lm bs j) with
    | some l,some e=>some (l++[e])
    | _,_=>none
theorem Gi {bs:Λ} {j:Nat} (h:rdF bs j=none):rdF bs (j+1)=none:=by simp [rdF,h]
theorem Abg {bs:Λ} {j:Nat} (hj:j<4) (h:KL (Lm bs j)=none):rdF bs 4=none:=by
  have h1:rdF bs (j+1)=none:=by simp only [rdF,h];cases rdF bs j<;>rfl
  rcases (ω:j=0∨j=1∨j=2∨j=3) with rfl | rfl | rfl | rfl
  · exact Gi (Gi (Gi h1))
  · exact Gi (Gi h1)
  · exact Gi h1
  · exact h1
theorem Ad6 {bs:Λ} {j:Nat} {l:List EntT} {e:EntT} (h:rdF bs j=some l) (hd:KL (Lm bs j)=some e):rdF bs (j+1)=some (l++[e]):=by simp [rdF,h,hd]
theorem OU {bs:Λ}:∀ (j:Nat) (l:List EntT),rdF bs j=some l→l.length=j
  | 0,l,h=>by cases h;rfl
  | j+1,l,h=>by
    unfold rdF at h
    cases h1:rdF bs j with
    | none=>rw [h1] at h;cases h
    | some l1=>
      cases h2:KL (Lm bs j) with
      | none=>rw [h1,h2] at h;cases h
      | some e=>
        rw [h1,h2] at h
        cases h
        rw [List.length_append,OU j l1 h1];rfl
def KR (t:List EntT) (q:Nat) (es:List EntT):List EntT:=splice t (4*q) es
theorem YT (t:List EntT) (q:Nat):KR t q []=t:=by simp [KR,splice]
theorem QR {t:List EntT} (ht:t.length=16) {q:Nat} {es:List EntT} (h:4*q+es.length≤16):(KR t q es).length=16:=by
  unfold KR;rw [length_splice t (4*q) es ω,ht]
theorem Wg {t:List EntT} (ht:t.length=16) {q:Nat} {es:List EntT} (h:4*q+es.length<16) (e:EntT):(KR t q es).set (4*q+es.length) e=KR t q (es++[e]):=
  MK t (4*q) es e ω
def Zg (t:List EntT) (q:Nat):Option (List EntT)→List EntT×Int
  | some es=>(KR t q es,0)
  | none=>(t,2)
def Fp (t:List EntT) (k:Int) (bs:Λ):List EntT×Int:=
  if 0≤k∧k<4 then (if bs.length<64 then (t,3) else Zg t k.toNat (rdF bs 4)) else (t,1)
def Aeo (w:World) (p:List EntT×Int) (e:Ending) (w':World):Prop:=e=.returned (.tuple #[.agg (Ao p.1).toArray,ν p.2])∧Below w.heap.size w w'
theorem FD {fn:Func} {c u:Tmp} (h:fn.results=#[.cell c 179,.tmp u]) {tmps:Array Value} {w:World} {g:Nat} {e:TypeId} {t:List EntT} (ht:t.length=16) (hc:tmps.getD c undef=π g) (hb:Blk w g e (Ao t)) :
    (results fn tmps).run prog w=.ok (.tuple #[.agg (Ao t).toArray,tmps.getD u undef]) w:=
  BX h hc hb υ179 rfl (by rw [Hz,BG,ht])
theorem Abv (b off n c j:Nat) (hj:j<4) (hc:64≤c) (w:World):(Instr.sliceAt 22 (.slice (some ⟨b,off,none⟩) n c) (some (ν ((j:Int)*16))) (some (ν (((j:Int)+1)*16))) none).run prog w=.ok (.slice (some ⟨b,off+16*j,none⟩) 16 (c-16*j)) w:=by
  have u:=υ22
  have s8:(sizeOf 5).run prog w=.ok 1 w:=κ
  have he:prog.elem 22=5:=κ
  have hu:prog.underlying 22=some (.slice (prog.elem 22)):=by rw [he];exact u
  rw [run_sliceAt_slice w _ _ _ _ _ hu,run_slice_lh w _ _ _ _ hu _ _ _ _ ω ω ω,he,s8]
  show Result.ok (sliced _ _ _ _ _) w=_
  unfold sliced
  rw [show ((j:Int)*16).toNat=16*j by omega,show (((j:Int)+1)*16).toNat=16*j+16 by omega,if_neg ω]
  simp only [Option.map_some,Addr.add_mid,Nat.mul_one]
  rw [show 16*j+16-16*j=16 by omega]
theorem Wq (t:List EntT) (ht:t.length=16) (k:Int) (a:Ω) (c:Nat) (bs:Λ) (w:World) (hr:RowB w a c bs) :
    Calls prog 138 #[.agg (Ao t).toArray,ν k,.slice a bs.length c] w (Aeo w (Fp t k bs)):=by
  obtain ⟨z,hz⟩:∃ z,z=Bd:=⟨_,rfl⟩
  have HZE:=hid hz
  have HZ:=hid (show z.length=16 by rw [hz];exact Ap)
  have HL:=hid (Aby HZ.out)
  have HT:=hid ht
  have hb9:=Ce hr
  have HROW:=hid hr
  have K0:=hid (AN (W:=w) rfl 179 (Ao t))
  have B0:=hid (Ck w (.cells (Ao t).toArray 179))
  have S0:=hid (show (w.alloc (.cells (Ao t).toArray 179)).heap.size=w.heap.size+1 by simp)
  clear ht hz hr
  by_cases hk:0≤k∧k<4
  · obtain ⟨q,rfl⟩:∃ q:Nat,k=q:=⟨k.toNat,ω⟩
    have hq:q<4:=ω
    have hir:Fp t (q:Int) bs=(if bs.length<64 then (t,3) else Zg t q (rdF bs 4)):=by unfold Fp;rw [if_pos hk];rfl
    have HIB:=fun w1=>DB (q:Int) w1
    rw [decide_eq_true hk] at HIB
    have HIB:=hid HIB
    clear hk
    by_cases hlen:bs.length<64
    · rw [if_pos hlen] at hir
      have HIR:=hid hir
      have d1:decide ((bs.length:Int)<64)=true:=decide_eq_true ω
      clear hir
      rw [HIR.out]
      go_enter func138,ntmps138
      go_wp2_with (first
        | ((with_reducible refine GD (z:=z) HZE.out rfl rfl ?_);intro w1 k1 b1 s1;rw [S0.out] at k1 s1;have K1:=hid k1;have B1:=hid (B0.out.trans (b1.mono B0.out.size));have T1:=hid (K0.out.mono b1);have S1:=hid s1;clear k1 b1 s1)
        | (go_at_call 157;refine (HIB.out _).mono ?_;rintro e w2 ⟨rfl,rfl⟩)
        | (with_reducible refine DF rfl _ rfl w.heap.size rfl t HT.out T1.out ?_)
        | ((try rw [S0.out]);(with_reducible refine CY rfl _ _ rfl (w.heap.size+1) rfl t HT.out rfl K1.out HL.out ?_);intro w3 k3 g3;have K3:=hid k3;have G3:=hid g3;clear k3 g3))
      refine bodyPost_ret (FD rfl HT.out rfl K3.out) rfl ⟨rfl,Cg B1.out G3.out ω B1.out.size⟩
    · rw [if_neg hlen] at hir
      have d1:decide ((bs.length:Int)<64)=false:=decide_eq_false ω
      have hbp:0<bs.length:=ω
      obtain ⟨b,off,rfl,hblt,_⟩:=HROW.out.at hbp
      have hc64:64≤c:=by have:=HROW.out.2.1;omega
      have h64:64≤bs.length:=ω
      have HSL:=hid (fun n j hj w1=>Abv b off n c j hj hc64 w1)
      have q4:(q:Int)<4:=ω
      have HIR:=hid hir
      clear hir hlen hbp
      go_enter func138,ntmps138
      go_wp2_with (first
        | (have _t:=T3;(with_reducible refine GD (z:=z) HZE.out rfl rfl ?_);intro w4 k4 b4 s4;have K4:=hid k4;have B4:=hid (Ac B1.out b4);have T4:=hid (T1.out.mono b4);have R4:=hid (K1.out.mono b4);have S4:=hid s4;clear k4 b4 s4)
        | ((with_reducible refine GD (z:=z) HZE.out rfl rfl ?_);intro w1 k1 b1 s1;rw [S0.out] at k1 s1;have K1:=hid k1;have B1:=hid (B0.out.trans (b1.mono B0.out.size));have T1:=hid (K0.out.mono b1);have S1:=hid s1;clear k1 b1 s1)
        | (go_at_call 157;refine (HIB.out _).mono ?_;rintro e w2 ⟨rfl,rfl⟩;have T3:True:=trivial)
        | (with_reducible refine DF rfl _ rfl w.heap.size rfl t HT.out T1.out ?_)
        | ((with_reducible refine CY rfl _ _ rfl w1.heap.size rfl t HT.out rfl K4.out HL.out ?_);intro w5 k5 g5;have K5:=hid k5;have G5:=hid g5;clear k5 g5))
      have hs1:w1.heap.size=w.heap.size+2:=by rw [S1.out]
      have T5:=hid (T4.out.grownS G5.out ω);have R5:=hid (R4.out.grownS G5.out ω);have B5:=hid (Cg B4.out G5.out ω B4.out.size)
      have K5':=K5.out
      rw [hs1] at K5' ⊢
      rw [← YT t q] at K5'
      have hs5:w.heap.size+3≤w5.heap.size:=by have h1:=G5.out.size;have h2:=S4.out;omega
      clear T4 R4 B4 K4 S4 G5 K5 T1 K1 B1 S1 hs1
      go_loopw [21] (fun i wr=>∃ (j:Nat) (l:List EntT),j≤4∧i=ν j∧rdF bs j=some l∧Blk wr w.heap.size 179 (Ao t)∧Blk wr (w.heap.size+1) 179 (Ao z)∧Blk wr (w.heap.size+2) 179 (Ao (KR t q l))∧Below w.heap.size w wr∧w.heap.size+3≤wr.heap.size) (fun i _=>4-(intOf i).toNat)
      case atStart=>exact ⟨0,[],ω,rfl,rfl,T5.out,R5.out,K5',B5.out,hs5⟩
      case round=>
        obtain ⟨j,l,hj,rfl,hrd,ht0,hr0,hk0,hb0,hsz⟩:=hrel
        clear T5 R5 K5' B5 hs5
        have HRD:=hid hrd;have T6:=hid ht0;have R6:=hid hr0;have K6:=hid hk0;have B6:=hid hb0
        have hll:=OU j l hrd
        clear hrd ht0 hr0 hk0 hb0
        by_cases hj4:j<4
        · have ij:(j:Int)<4:=ω
          have dj:decide ((j:Int)<4)=true:=decide_eq_true ij
          have hsl:=fun n w1=>HSL.out n j hj4 w1
          have hrow:=Mw (HROW.out.mono B6.out) (16*j) 16 ω
          have hch:=UP h64 hj4
          have HRC:=fun w1 (hb:Below wr.heap.size wr w1)=>UT b (off+16*j) (c-16*j) (Lm bs j) hch w1 (hrow.mono hb)
          have HRC:=hid HRC
          have hls:=QR HT.out (q:=q) (es:=l) ω
          have HLS:=hid hls;have HLL:=hid hll
          have hkt:4*q+j<(KR t q l).length:=by rw [hls];omega
          have HKT:=hid hkt
          clear hrow hch hls hll hkt
          go_wp2_with (go_at_call 158;fail)
          refine (HRC.out _ (Below.refl _ _)).mono ?_
          rintro e w7 ⟨nm,ino,ok,rfl,hyes,hno,b7⟩
          have HY:=hid hyes;have HN:=hid hno
          have T7:=hid (T6.out.mono b7);have R7:=hid (R6.out.mono b7);have K7:=hid (K6.out.mono b7);have B7:=hid (Ac B6.out b7)
          have z7:w.heap.size+3≤w7.heap.size:=Nat.le_trans hsz b7.size
          have KE:=hid (AN (W:=w7) rfl 177 [.string nm,ν ino])
          clear b7 hyes hno HRC hsl
          cases ok with
          | false=>
            have hbad:=Abg hj4 (HN.out rfl)
            have HBAD:=hid hbad
            clear hbad
            have T8:=hid (T7.out.mono (Ck _ (.cells #[.string nm,ν ino] 177)));have R8:=hid (R7.out.mono (Ck _ (.cells #[.string nm,ν ino] 177)))
            go_wp2_with (first
              | (with_reducible refine DF rfl _ rfl w.heap.size rfl t HT.out T8.out ?_)
              | ((with_reducible refine CY rfl _ _ rfl (w.heap.size+1) rfl t HT.out rfl R8.out HL.out ?_);intro w9 k9 g9;have K9:=hid k9;have G9:=hid g9;clear k9 g9))
            refine bodyPost_ret (FD rfl HT.out rfl K9.out) rfl ⟨by rw [HIR.out,HBAD.out];rfl,Cg (B7.out.alloc B7.out.size _) G9.out ω (by simp;omega)⟩
          | true=>
            have hok:=Ad6 HRD.out (HY.out rfl)
            have hsn:=Wg HT.out (q:=q) (es:=l) (by have:=HLL.out;omega) ⟨nm,ino⟩
            rw [HLL.out] at hsn
            have HOK:=hid hok;have HSN:=hid hsn
            clear hok hsn
            have K8:Hid (Blk (w7.alloc (.cells #[.string nm,ν ino] 177)) (w.heap.size+2) 179 (Ao (KR t q l))):=hid (K7.out.mono (Ck _ _))
            have e1:IntKind.i64.wrap ((q:Int)*4+j)=q*4+j:=IntWalk.i64_in _ ω
            have e3:((q:Int)*4+j)<16:=ω
            have e4:((q:Int)*4+j).toNat=4*q+j:=ω
            go_wp2_with (first
              | ((with_reducible refine Rn rfl _ _ rfl (w.heap.size+2) (4*q+j) rfl nm ino rfl K8.out HKT.out ?_);intro w9 k9 g9;rw [HSN.out] at k9;have K9:=hid k9;have G9:=hid g9;clear k9 g9))
            go_roundw
            case rel=>exact ⟨j+1,l++[⟨nm,ino⟩],ω,by go_num,HOK.out,(T7.out.mono (Ck _ (.cells #[.string nm,ν ino] 177))).grownS G9.out ω,(R7.out.mono (Ck _ (.cells #[.string nm,ν ino] 177))).grownS G9.out ω,K9.out,Cg (B7.out.alloc B7.out.size (.cells #[.string nm,ν ino] 177)) G9.out ω (by simp;omega),by have:=G9.out.size;simp at this;omega⟩
            case measure=>simp [intOf];omega
        · obtain rfl:j=4:=ω
          have dj:decide (((4:Nat):Int)<4)=false:=by decide
          have hls:=QR HT.out (q:=q) (es:=l) ω
          have HLS:=hid hls
          clear hls hll
          go_wp2_with (first
            | (with_reducible refine DF rfl _ rfl (w.heap.size+2) rfl (KR t q l) HLS.out K6.out ?_)
            | ((with_reducible refine CY rfl _ _ rfl (w.heap.size+1) rfl (KR t q l) HLS.out rfl R6.out HL.out ?_);intro w9 k9 g9;have K9:=hid k9;have G9:=hid g9;clear k9 g9))
          refine bodyPost_ret (FD rfl HLS.out rfl K9.out) rfl ⟨by rw [HIR.out,HRD.out];rfl,Cg B6.out G9.out ω B6.out.size⟩
  · have hir:Fp t k bs=(t,1):=if_neg hk
    have HIB:=fun w1=>DB k w1
    rw [decide_eq_false hk] at HIB
    have HIB:=hid HIB
    have HIR:=hid hir
    clear hk hir
    rw [HIR.out]
    go_enter func138,ntmps138
    go_wp2_with (first
      | ((with_reducible refine GD (z:=z) HZE.out rfl rfl ?_);intro w1 k1 b1 s1;rw [S0.out] at k1 s1;have K1:=hid k1;have B1:=hid (B0.out.trans (b1.mono B0.out.size));have T1:=hid (K0.out.mono b1);have S1:=hid s1;clear k1 b1 s1)
      | (go_at_call 157;refine (HIB.out _).mono ?_;rintro e w2 ⟨rfl,rfl⟩)
      | (with_reducible refine DF rfl _ rfl w.heap.size rfl t HT.out T1.out ?_)
      | ((try rw [S0.out]);(with_reducible refine CY rfl _ _ rfl (w.heap.size+1) rfl t HT.out rfl K1.out HL.out ?_);intro w3 k3 g3;have K3:=hid k3;have G3:=hid g3;clear k3 g3))
    refine bodyPost_ret (FD rfl HT.out rfl K3.out) rfl ⟨rfl,Cg B1.out G3.out ω B1.out.size⟩
end
section
open Go.RowKit Go.Shelf
def nzE (e:EntT):Bool:=!decide (e.nm=⟨#[]⟩∧e.ino=0)
def GM (t:List EntT) (k:Int):Bool:=decide (0≤k∧k<4)&&((t.drop (4*k.toNat)).take 4).any nzE
theorem UG {es:List EntT} {j:Nat} (hj:j<es.length):(es.take (j+1)).any nzE=((es.take j).any nzE||nzE es[j]):=by
  rw [List.take_succ_eq_append_getElem hj,List.any_append];simp
theorem Wu (t:List EntT) (ht:t.length=16) (k:Int) (w:World):Calls prog 145 #[.agg (Ao t).toArray,ν k] w fun e w'=>e=.returned (.bool (GM t k))∧Below w.heap.size w w':=by
  have HT:=hid ht
  have K0:=hid (AN (W:=w) rfl 179 (Ao t))
  have B0:=hid (Ck w (.cells (Ao t).toArray 179))
  have SZ:=hid (show (w.alloc (.cells (Ao t).toArray 179)).heap.size=w.heap.size+1 by simp)
  clear ht
  by_cases hk:0≤k∧k<4
  · obtain ⟨q,rfl⟩:∃ q:Nat,k=q:=⟨k.toNat,ω⟩
    have hq:q<4:=ω
    have hr:GM t (q:Int)=((t.drop (4*q)).take 4).any nzE:=by unfold GM;rw [decide_eq_true hk];rfl
    have HIB:=fun w1=>DB (q:Int) w1
    rw [decide_eq_true hk] at HIB
    have HIB:=hid HIB
    have q4:(q:Int)<4:=ω
    clear hk
    obtain ⟨es,hes⟩:∃ es,es=(t.drop (4*q)).take 4:=⟨_,rfl⟩
    rw [← hes] at hr
    rw [hr]
    have hel:es.length=4:=by rw [hes,List.length_take,List.length_drop,HT.out];omega
    have hget:∀ j (h:j<es.length),∃ h':4*q+j<t.length,es[j]=t[4*q+j]:=fun j h=>⟨by rw [HT.out];omega,by subst hes;simp⟩
    have HG:=hid hget;have HEL:=hid hel
    clear hes hget hel hr
    have hsl:=fun w1=>NV w.heap.size q hq w1
    obtain ⟨r,hr⟩:∃ r,r=es.any nzE:=⟨_,rfl⟩
    rw [← hr]
    have HR:=hid hr
    clear hr
    go_enter func145,ntmps145
    go_wp2_with (go_at_call 157;refine (HIB.out _).mono ?_;rintro e w1 ⟨rfl,rfl⟩)
    go_loopw [17] (fun i wr=>∃ (j:Nat),j≤4∧i=ν j∧(es.take j).any nzE=false∧Blk wr w.heap.size 179 (Ao t)∧Below w.heap.size w wr) (fun i _=>4-(intOf i).toNat)
    case atStart=>exact ⟨0,ω,rfl,rfl,K0.out,B0.out⟩
    case round=>
      obtain ⟨j,hj,rfl,hno,hb0,hbl⟩:=hrel
      clear K0 B0 SZ hsl
      have HB0:=hid hb0;have HBL:=hid hbl;have HNO:=hid hno
      clear hb0 hbl hno
      by_cases hj4:j<4
      · have ij:(j:Int)<4:=ω
        have dj:decide ((j:Int)<4)=true:=decide_eq_true ij
        have hje:j<es.length:=by rw [HEL.out];exact hj4
        obtain ⟨ht4,hte⟩:=HG.out j hje
        have ck:=EE t (4*q+j) ht4
        obtain ⟨hq0,hv0⟩:=List.getElem?_eq_some_iff.1 ck.1
        obtain ⟨hq1,hv1⟩:=List.getElem?_eq_some_iff.1 ck.2
        have c0:wr.cell? ⟨w.heap.size,8*q+j*2,none⟩=some (.string es[j].nm):=by rw [hte,show 8*q+j*2=2*(4*q+j) by omega,HB0.out.cell (i:=2*(4*q+j)) hq0,hv0]
        have c1':wr.cell? ⟨w.heap.size,8*q+j*2+1,none⟩=some (ν es[j].ino):=by rw [hte,show 8*q+j*2+1=2*(4*q+j)+1 by omega,HB0.out.cell (i:=2*(4*q+j)+1) hq1,hv1]
        have hsn:=UG hje
        rw [HNO.out,Bool.false_or] at hsn
        have hyes:nzE es[j]=true→es.any nzE=true:=fun h=>List.any_eq_true.2 ⟨es[j],List.getElem_mem _,h⟩
        have E:=RN es[j].nm ⟨#[]⟩ es[j].ino 0
        have hnz:nzE es[j]=!decide (es[j].nm=⟨#[]⟩∧es[j].ino=0):=rfl
        rw [hnz] at hsn hyes
        have HSN:=hid hsn;have HY:=hid hyes
        clear hsn hyes hte ck hq0 hq1 hv0 hv1 hnz
        generalize es[j].nm=nm at *
        generalize es[j].ino=ino at *
        have HB1:=hid (HB0.out.mono (Ck wr (.cells #[.string nm,ν ino] 177)))
        have HL1:=hid (HBL.out.alloc HBL.out.size (.cells #[.string nm,ν ino] 177))
        by_cases hz:nm=⟨#[]⟩∧ino=0
        · rw [decide_eq_true hz] at E HSN
          clear hz
          go_wp2_with fail
          go_roundw
          case rel=>exact ⟨j+1,ω,by go_num,HSN.out,HB1.out,HL1.out⟩
          case measure=>simp [intOf];omega
        · rw [decide_eq_false hz] at E HY
          have HF:=hid (HR.out.trans (HY.out rfl))
          clear hz
          go_wp2_with fail
          go_ret
          exact ⟨AR HF.out.symm,HL1.out⟩
      · obtain rfl:j=4:=ω
        have dj:decide (((4:Nat):Int)<4)=false:=by decide
        rw [List.take_of_length_le (by rw [HEL.out];omega)] at HNO
        have HF:=hid (HR.out.trans HNO.out)
        go_wp2_with fail
        go_ret
        exact ⟨AR HF.out.symm,HBL.out⟩
  · have hr:GM t k=false:=by unfold GM;rw [decide_eq_false hk];rfl
    rw [hr]
    have HIB:=fun w1=>DB k w1
    rw [decide_eq_false hk] at HIB
    have HIB:=hid HIB
    clear hk hr
    go_enter func145,ntmps145
    go_wp2_with (go_at_call 157;refine (HIB.out _).mono ?_;rintro e w1 ⟨rfl,rfl⟩)
    go_ret
    exact ⟨rfl,B0.out⟩
end
section
open Go.RowKit Go.Shelf
def Ahv (l:Λ):Option Nat:=l.findIdx? (fun b=>b == 47)
def Bj:Λ→List (Λ)
  | []=>[[]]
  | b::l=>if b == 47 then []::Bj l else match Bj l with
    | p::r=>(b::p)::r
    | []=>[[b]]
theorem Kz (b:UInt8) (l:Λ):Bj (b::l)=if b == 47 then []::Bj l else match Bj l with
    | p::r=>(b::p)::r
    | []=>[[b]]:=by rw [Bj]
theorem NL (l:Λ):Bj l≠[]:=by
  cases l with
  | nil=>simp [Bj]
  | cons b l=>
    unfold Bj
    split
    · simp
    · split<;>simp
theorem Ev:∀ {l:Λ},(∀ b∈l,b≠47)→Bj l=[l]
  | [],_=>rfl
  | b::l,h=>by
    have hb:(b == 47)=false:=by simpa using h b (by simp)
    have ih:=Ev (l:=l) (fun x hx=>h x (by simp [hx]))
    unfold Bj
    rw [hb,ih];rfl
theorem Gg:∀ (p r:Λ),(∀ b∈p,b≠47)→Bj (p++47::r)=p::Bj r
  | [],r,_=>by
    show Bj (47::r)=_
    rw [Kz];rfl
  | b::p,r,h=>by
    have hb:(b == 47)=false:=by simpa using h b (by simp)
    have ih:=Gg p r (fun x hx=>h x (by simp [hx]))
    show Bj (b::(p++47::r))=_
    rw [Kz,hb,ih];rfl
theorem Id:∀ l:Λ,(Bj l).length≤l.length+1
  | []=>by simp [Bj]
  | b::l=>by
    have ih:=Id l
    unfold Bj
    split
    · simp;omega
    · split
      · rename_i h;rw [h] at ih;simp at ih ⊢;omega
      · simp
theorem FG (l:Λ):(Lib.indexByte l 47=-1∧∀ b∈l,b≠47)∨(∃ k:Nat,Lib.indexByte l 47=k∧k<l.length∧(∀ b∈l.take k,b≠47)∧l=l.take k++47::l.drop (k+1)):=by
  have hge:=Lib.indexByte_ge l 47
  by_cases h:Lib.indexByte l 47=-1
  · refine .inl ⟨h,fun b hb e=>?_⟩
    obtain ⟨i,hi,rfl⟩:=List.getElem_of_mem hb
    exact Lib.indexByte_none h i (by rw [List.getElem?_eq_getElem hi,e])
  · obtain ⟨k,hk⟩:∃ k:Nat,Lib.indexByte l 47=k:=⟨(Lib.indexByte l 47).toNat,ω⟩
    obtain ⟨h1,h2⟩:=Lib.indexByte_some hk
    obtain ⟨h3,h4⟩:=List.getElem?_eq_some_iff.1 h1
    refine .inr ⟨k,hk,h3,fun b hb e=>?_,?_⟩
    · obtain ⟨i,hi,rfl⟩:=List.getElem_of_mem hb
      rw [List.length_take] at hi
      rw [List.getElem_take] at e
      exact h2 i ω (by rw [List.getElem?_eq_getElem ω,e])
    · rw [← h4,List.getElem_cons_drop,List.take_append_drop]
theorem Sh (s:ByteArray) (w:World):Calls prog 183 #[.string s,.int .u8 47] w fun e w'=>e=.returned (ν (Lib.indexByte s.data.toList 47))∧w=w':=by
  go_enter func183,ntmps183
  go_wp2
  rw [run_callFunc_extern func185 κ κ κ (e:=Extern.BytealgIndexByte.indexByte) κ,Lib.run_indexByteString]
  simp only [Result.andThen]
  rw [Oper.upon_value]
  go_wp2
  go_ret
  exact ⟨rfl,rfl⟩
theorem Si (s:ByteArray) (w:World):Calls prog 182 #[.string s,.string ⟨#[47]⟩] w fun e w'=>e=.returned (ν (Lib.indexByte s.data.toList 47))∧w=w':=by
  by_cases hs:s=⟨#[47]⟩
  · subst hs
    go_enter func182,ntmps182
    go_wp2_with fail
    go_ret
    exact ⟨FE (by decide +kernel),rfl⟩
  have e1:=KV s ⟨#[47]⟩
  rw [decide_eq_false hs,Qb] at e1
  have e2:=KV ⟨#[47]⟩ s
  rw [decide_eq_false (fun h=>hs h.symm),Qb] at e2
  have HI:=hid (fun w1=>Sh s w1)
  clear hs
  go_enter func182,ntmps182
  go_wp2_with (go_at_call 183;refine (HI.out _).mono ?_;rintro e w1 ⟨rfl,rfl⟩)
  go_ret
  exact ⟨rfl,rfl⟩
theorem Nw (s:ByteArray) (w:World):Calls prog 174 #[.string s,.string ⟨#[47]⟩] w fun e w'=>e=.returned (ν (Lib.indexByte s.data.toList 47))∧w=w':=by
  have HI:=hid (fun w1=>Si s w1)
  go_enter func174,ntmps174
  go_wp2_with (go_at_call 182;refine (HI.out _).mono ?_;rintro e w1 ⟨rfl,rfl⟩)
  go_ret
  exact ⟨rfl,rfl⟩
theorem Ol (a:Ω) (c:Nat) (L:List ByteArray) (w:World) (h:JF w a c L) :
    Calls prog 137 #[.slice a L.length c] w fun e w'=>e=.returned (.bool (L.all DJ))∧Below w.heap.size w w':=by
  have hl:=YH h
  have HR:=hid h
  clear h
  go_enter func137,ntmps137
  go_wp2
  go_loopw [7] (fun i wr=>∃ j:Nat,j≤L.length∧i=ν j∧(L.take j).all DJ=true∧Below w.heap.size w wr) (fun i _=>L.length-(intOf i).toNat)
  case atStart=>exact ⟨0,Nat.zero_le _,rfl,by simp,Below.refl _ _⟩
  case round=>
    obtain ⟨j,hj,rfl,hall,hb⟩:=hrel
    by_cases hlt:j<L.length
    · obtain ⟨b,off,rfl,hbl,hc⟩:=IH (HR.out.mono hb) ω
      have cj:=hc j hlt
      have ij:(j:Int)<L.length:=ω
      have dj:decide ((j:Int)<(L.length:Int))=true:=decide_eq_true ij
      have hsn:(L.take (j+1)).all DJ=DJ L[j]:=by rw [List.take_succ_eq_append_getElem hlt,List.all_append,hall];simp
      have hbad:DJ L[j]=false→L.all DJ=false:=fun h=>by
        rw [List.all_eq_false];exact ⟨L[j],List.getElem_mem _,by rw [h];simp⟩
      have HM:=fun w1=>Qf L[j] w1
      have HSN:=hid hsn;have HBAD:=hid hbad;have HB:=hid hb
      clear hc hsn hbad hall hb
      generalize L[j]=x at *
      cases hm:DJ x with
      | true=>
        rw [hm] at HM HSN
        have HM:=hid HM
        clear hm
        go_wp2_with (go_at_call 156;refine (HM.out _).mono ?_;rintro e w1 ⟨rfl,b1⟩;have B1:=hid (Ac HB.out b1);clear b1)
        go_roundw
        case rel=>exact ⟨j+1,ω,by go_num,HSN.out,B1.out⟩
        case measure=>simp [intOf];omega
      | false=>
        rw [hm] at HM
        have HF:=hid (HBAD.out hm)
        have HM:=hid HM
        clear hm
        go_wp2_with (go_at_call 156;refine (HM.out _).mono ?_;rintro e w1 ⟨rfl,b1⟩;have B1:=hid (Ac HB.out b1);clear b1)
        go_ret
        exact ⟨AR HF.out.symm,B1.out⟩
    · obtain rfl:j=L.length:=ω
      have dj:decide ((L.length:Int)<(L.length:Int))=false:=decide_eq_false ω
      rw [List.take_length] at hall
      have HALL:=hid hall
      clear hall
      go_wp2
      go_ret
      exact ⟨AR HALL.out.symm,hb⟩
end
section
open Go.RowKit Go.Shelf
def Rs (w:World) (X:Λ) (e:Ending) (w':World):Prop:=
  ∃ (a:Ω) (c:Nat) (R:List ByteArray),e=.returned (.slice a R.length c)∧Acl w' w.heap.size a c R∧Below w.heap.size w w' ∧
    ((R=(Bj X).map Ai∧R.length≤6)∨(6<(Bj X).length∧∃ x∈R,(47:UInt8)∈x.data.toList))
def Aek (n:Nat):List Value:=List.replicate n (.string ⟨#[]⟩)
theorem Zt (n:Nat):(Aek n).length=n:=List.length_replicate
def Pb (L:List (Λ)) (n:Nat):List Value:=(L.map Ai).map Wl++Aek (n-L.length)
theorem Gj (L:List (Λ)) {n:Nat} (h:L.length≤n):(Pb L n).length=n:=by simp [Pb,Zt];omega
theorem QL (L:List (Λ)) {n:Nat} (h:L.length<n) (x:Λ):(Pb L n).set L.length (σ x)=Pb (L++[x]) n:=by
  unfold Pb
  have hl:((L.map Ai).map Wl).length=L.length:=by simp
  rw [List.set_append_right _ _ ω,hl,Nat.sub_self]
  unfold Aek
  rw [show n-L.length=(n-(L++[x]).length)+1 by simp;omega,List.replicate_succ,List.set_cons_zero,List.map_append,List.map_append,List.append_assoc]
  rfl
theorem If (L:List (Λ)) (n:Nat):(Pb L n).take L.length=(L.map Ai).map Wl:=by
  unfold Pb
  exact List.take_left' (by simp)
theorem IX (l:Λ) (k:Nat):(Ai l).extract 0 k=Ai (l.take k):=by rw [TS,DD];simp
theorem Lz (l:Λ) (k:Nat):(Ai l).extract k l.length=Ai (l.drop k):=by
  rw [TS,DD,List.take_of_length_le (by rw [List.length_drop];omega)]
theorem OA (X:Λ) (hX:X.length≤1000) (w:World):Calls prog 155 #[σ X,.string ⟨#[47]⟩,ν 0,ν 6] w (Rs w X):=by
  have hsz:=Fd X
  have hp1:=Id X
  by_cases h6:5≤X.length
  · have i6:(6:Int)≤(X.length:Int)+1:=ω
    go_enter func155,ntmps155
    go_wp2_with (refine JD rfl (.tmp 30) (.tmp 30) rfl υ69 (z:=.string ⟨#[]⟩) (bytes:=16) κ rfl (n:=6) rfl rfl (by first | rfl | omega) (by first | rfl | omega) ω ω ?_;intro w1 k1 b1;have K1:=hid k1;have B1:=hid b1;clear k1 b1)
    clear hsz
    go_loopw [0,10] (fun sv i wr=>∃ (j:Nat) (cur:Λ) (out:List (Λ)),j<6∧sv=σ cur∧i=ν j∧out.length=j∧Bj X=out++Bj cur∧cur.length≤X.length∧Blk wr w.heap.size 9 (Pb out (6))∧Below w.heap.size w wr) (fun _ i _=>6-(intOf i).toNat)
    case atStart=>exact ⟨0,X,[],ω,rfl,rfl,rfl,rfl,Nat.le_refl _,K1.out,B1.out⟩
    case round=>
      obtain ⟨j,cur,out,hj,rfl,rfl,hol,hpc,hcl,hk,hb⟩:=hrel
      have HOL:=hid hol;have HPC:=hid hpc;have HB:=hid hb;have HK:=hid hk
      have hrl:=Gj out (n:=6) ω
      have hrs:=fun x=>QL out (n:=6) ω x
      have cj:∃ v,wr.cell? ⟨w.heap.size,j,none⟩=some v:=by rw [← hol];exact ⟨_,hk.cell (i:=out.length) (by rw [hrl,hol];omega)⟩
      obtain ⟨vj,cj⟩:=cj
      have fj:wr.frozen? ⟨w.heap.size,j,none⟩=false:=hk.frozen _
      have hlt:=hk.lt
      have HRS:=hid hrs
      have hcs:=Fd cur
      have HI:=hid (fun w1=>Nw (Ai cur) w1)
      clear hol hpc hb hk hrl hrs
      have ijn:(j:Int)<((6:Nat):Int):=ω
      have e0:IntKind.i64.wrap ((j:Int)+1)=j+1:=IntWalk.i64_in _ ω
      by_cases hlast:j+1=6
      · have dl:decide ((j:Int)<5)=false:=decide_eq_false ω
        have il:¬ (j:Int)<5:=ω
        have HLAST:=hid hlast
        clear hlast
        go_wp2_with fail
        have hlast:=HLAST.out
        have q:=HK.out.set j (σ cur)
        have hr:=HRS.out cur
        rw [HOL.out] at hr
        rw [hr] at q
        have hpc2:=HPC.out
        go_ret
        refine ⟨some ⟨w.heap.size,0,none⟩,6,(out++[cur]).map Ai,?_,?_,HB.out.setCell (p:=⟨w.heap.size,j,none⟩) (Nat.le_refl _) _,?_⟩
        · have hlen:((out++[cur]).map Ai).length=j+1:=by rw [List.length_map,List.length_append,HOL.out];rfl
          rw [hlen];rfl
        · have hlen:(out++[cur]).length=j+1:=by rw [List.length_append,HOL.out];rfl
          have qq:=Own.of_blk (B:=w.heap.size) (sz:=1) (n:=j+1) (c:=6) q (Nat.le_refl _) ω (by unfold maxLen;omega) (by rw [Gj _ (by have:=HOL.out;simp;omega)];try omega)
          rw [Nat.mul_one,← hlen,If] at qq
          show Own _ _ _ 1 _ ((out++[cur]).map Ai).length _ _
          rw [List.length_map]
          exact qq
        · rcases FG cur with ⟨_,hno⟩ | ⟨k,hk1,hk2,hk3,hk4⟩
          · have hp:=Ev hno
            rw [hp] at hpc2
            exact .inl ⟨by rw [hpc2],by rw [List.length_map,List.length_append,HOL.out];simp;omega⟩
          · refine .inr ⟨?_,Ai cur,by simp,by rw [DD,hk4];simp⟩
            have hp:=Gg (cur.take k) (cur.drop (k+1)) hk3
            rw [← hk4] at hp
            rw [hp] at hpc2
            have h1:(Bj X).length=out.length+(1+(Bj (cur.drop (k+1))).length):=by rw [hpc2];simp;omega
            have h2:=List.length_pos_iff.2 (NL (cur.drop (k+1)))
            have h3:=HOL.out
            have h4:=Id X
            omega
      · have dl:decide ((j:Int)<5)=true:=decide_eq_true ω
        have il:(j:Int)<5:=ω
        rcases FG cur with ⟨hm,hno⟩ | ⟨k,hm,hk2,hk3,hk4⟩
        · rw [DD,hm] at HI
          have HNO:=hid hno
          clear hno hm
          go_wp2_with (go_at_call 174;refine (HI.out _).mono ?_;rintro e w2 ⟨rfl,rfl⟩)
          have q:=HK.out.set j (σ cur)
          have hr:=HRS.out cur
          rw [HOL.out] at hr
          rw [hr] at q
          have hpc2:=HPC.out
          go_ret
          refine ⟨some ⟨w.heap.size,0,none⟩,6,(out++[cur]).map Ai,?_,?_,HB.out.setCell (p:=⟨w.heap.size,j,none⟩) (Nat.le_refl _) _,?_⟩
          · have hlen:((out++[cur]).map Ai).length=j+1:=by rw [List.length_map,List.length_append,HOL.out];rfl
            rw [hlen];rfl
          · have hlen:(out++[cur]).length=j+1:=by rw [List.length_append,HOL.out];rfl
            have qq:=Own.of_blk (B:=w.heap.size) (sz:=1) (n:=j+1) (c:=6) q (Nat.le_refl _) ω (by unfold maxLen;omega) (by rw [Gj _ (by have:=HOL.out;simp;omega)];try omega)
            rw [Nat.mul_one,← hlen,If] at qq
            show Own _ _ _ 1 _ ((out++[cur]).map Ai).length _ _
            rw [List.length_map]
            exact qq
          · have hp:=Ev HNO.out
            rw [hp] at hpc2
            exact .inl ⟨by rw [hpc2],by rw [List.length_map,List.length_append,HOL.out];simp;omega⟩
        · rw [DD,hm] at HI
          have hp:=Gg (cur.take k) (cur.drop (k+1)) hk3
          rw [← hk4] at hp
          have HP:=hid hp
          have x1:=IX cur k
          have x2:=Lz cur (k+1)
          have ik:(k:Int)<cur.length:=ω
          have ik2:(k:Int)+1≤cur.length:=ω
          clear hk4 hk3 hm hp
          go_wp2_with (go_at_call 174;refine (HI.out _).mono ?_;rintro e w2 ⟨rfl,rfl⟩)
          go_roundw
          case rel=>
            refine ⟨j+1,cur.drop (k+1),out++[cur.take k],ω,rfl,by go_num,by rw [List.length_append,HOL.out];rfl,by rw [HPC.out,HP.out,List.append_assoc];rfl,by rw [List.length_drop];omega,?_,HB.out.setCell (p:=⟨w.heap.size,j,none⟩) (Nat.le_refl _) _⟩
            have q:=HK.out.set j (σ (cur.take k))
            have hr:=HRS.out (cur.take k)
            rw [HOL.out] at hr
            rw [hr] at q
            exact q
          case measure=>simp [intOf];omega
  · have i6:¬ (6:Int)≤(X.length:Int)+1:=ω
    go_enter func155,ntmps155
    go_wp2_with (refine JD rfl (.tmp 30) (.tmp 30) rfl υ69 (z:=.string ⟨#[]⟩) (bytes:=16) κ rfl (n:=(X.length+1)) rfl rfl (by first | rfl | omega) (by first | rfl | omega) ω ω ?_;intro w1 k1 b1;have K1:=hid k1;have B1:=hid b1;clear k1 b1)
    clear hsz
    go_loopw [0,10] (fun sv i wr=>∃ (j:Nat) (cur:Λ) (out:List (Λ)),j<(X.length+1)∧sv=σ cur∧i=ν j∧out.length=j∧Bj X=out++Bj cur∧cur.length≤X.length∧Blk wr w.heap.size 9 (Pb out ((X.length+1)))∧Below w.heap.size w wr) (fun _ i _=>(X.length+1)-(intOf i).toNat)
    case atStart=>exact ⟨0,X,[],ω,rfl,rfl,rfl,rfl,Nat.le_refl _,K1.out,B1.out⟩
    case round=>
      obtain ⟨j,cur,out,hj,rfl,rfl,hol,hpc,hcl,hk,hb⟩:=hrel
      have HOL:=hid hol;have HPC:=hid hpc;have HB:=hid hb;have HK:=hid hk
      have hrl:=Gj out (n:=(X.length+1)) ω
      have hrs:=fun x=>QL out (n:=(X.length+1)) ω x
      have cj:∃ v,wr.cell? ⟨w.heap.size,j,none⟩=some v:=by rw [← hol];exact ⟨_,hk.cell (i:=out.length) (by rw [hrl,hol];omega)⟩
      obtain ⟨vj,cj⟩:=cj
      have fj:wr.frozen? ⟨w.heap.size,j,none⟩=false:=hk.frozen _
      have hlt:=hk.lt
      have HRS:=hid hrs
      have hcs:=Fd cur
      have HI:=hid (fun w1=>Nw (Ai cur) w1)
      clear hol hpc hb hk hrl hrs
      have ijn:(j:Int)<(((X.length+1):Nat):Int):=ω
      have e0:IntKind.i64.wrap ((j:Int)+1)=j+1:=IntWalk.i64_in _ ω
      by_cases hlast:j+1=(X.length+1)
      · have dl:decide ((j:Int)<(X.length:Int))=false:=decide_eq_false ω
        have il:¬ (j:Int)<(X.length:Int):=ω
        have HLAST:=hid hlast
        clear hlast
        go_wp2_with fail
        have hlast:=HLAST.out
        have q:=HK.out.set j (σ cur)
        have hr:=HRS.out cur
        rw [HOL.out] at hr
        rw [hr] at q
        have hpc2:=HPC.out
        go_ret
        refine ⟨some ⟨w.heap.size,0,none⟩,(X.length+1),(out++[cur]).map Ai,?_,?_,HB.out.setCell (p:=⟨w.heap.size,j,none⟩) (Nat.le_refl _) _,?_⟩
        · have hlen:((out++[cur]).map Ai).length=j+1:=by rw [List.length_map,List.length_append,HOL.out];rfl
          rw [hlen];rfl
        · have hlen:(out++[cur]).length=j+1:=by rw [List.length_append,HOL.out];rfl
          have qq:=Own.of_blk (B:=w.heap.size) (sz:=1) (n:=j+1) (c:=(X.length+1)) q (Nat.le_refl _) ω (by unfold maxLen;omega) (by rw [Gj _ (by have:=HOL.out;simp;omega)];try omega)
          rw [Nat.mul_one,← hlen,If] at qq
          show Own _ _ _ 1 _ ((out++[cur]).map Ai).length _ _
          rw [List.length_map]
          exact qq
        · rcases FG cur with ⟨_,hno⟩ | ⟨k,hk1,hk2,hk3,hk4⟩
          · have hp:=Ev hno
            rw [hp] at hpc2
            exact .inl ⟨by rw [hpc2],by rw [List.length_map,List.length_append,HOL.out];simp;omega⟩
          · refine .inr ⟨?_,Ai cur,by simp,by rw [DD,hk4];simp⟩
            have hp:=Gg (cur.take k) (cur.drop (k+1)) hk3
            rw [← hk4] at hp
            rw [hp] at hpc2
            have h1:(Bj X).length=out.length+(1+(Bj (cur.drop (k+1))).length):=by rw [hpc2];simp;omega
            have h2:=List.length_pos_iff.2 (NL (cur.drop (k+1)))
            have h3:=HOL.out
            have h4:=Id X
            omega
      · have dl:decide ((j:Int)<(X.length:Int))=true:=decide_eq_true ω
        have il:(j:Int)<(X.length:Int):=ω
        rcases FG cur with ⟨hm,hno⟩ | ⟨k,hm,hk2,hk3,hk4⟩
        · rw [DD,hm] at HI
          have HNO:=hid hno
          clear hno hm
          go_wp2_with (go_at_call 174;refine (HI.out _).mono ?_;rintro e w2 ⟨rfl,rfl⟩)
          have q:=HK.out.set j (σ cur)
          have hr:=HRS.out cur
          rw [HOL.out] at hr
          rw [hr] at q
          have hpc2:=HPC.out
          go_ret
          refine ⟨some ⟨w.heap.size,0,none⟩,(X.length+1),(out++[cur]).map Ai,?_,?_,HB.out.setCell (p:=⟨w.heap.size,j,none⟩) (Nat.le_refl _) _,?_⟩
          · have hlen:((out++[cur]).map Ai).length=j+1:=by rw [List.length_map,List.length_append,HOL.out];rfl
            rw [hlen];rfl
          · have hlen:(out++[cur]).length=j+1:=by rw [List.length_append,HOL.out];rfl
            have qq:=Own.of_blk (B:=w.heap.size) (sz:=1) (n:=j+1) (c:=(X.length+1)) q (Nat.le_refl _) ω (by unfold maxLen;omega) (by rw [Gj _ (by have:=HOL.out;simp;omega)];try omega)
            rw [Nat.mul_one,← hlen,If] at qq
            show Own _ _ _ 1 _ ((out++[cur]).map Ai).length _ _
            rw [List.length_map]
            exact qq
          · have hp:=Ev HNO.out
            rw [hp] at hpc2
            exact .inl ⟨by rw [hpc2],by rw [List.length_map,List.length_append,HOL.out];simp;omega⟩
        · rw [DD,hm] at HI
          have hp:=Gg (cur.take k) (cur.drop (k+1)) hk3
          rw [← hk4] at hp
          have HP:=hid hp
          have x1:=IX cur k
          have x2:=Lz cur (k+1)
          have ik:(k:Int)<cur.length:=ω
          have ik2:(k:Int)+1≤cur.length:=ω
          clear hk4 hk3 hm hp
          go_wp2_with (go_at_call 174;refine (HI.out _).mono ?_;rintro e w2 ⟨rfl,rfl⟩)
          go_roundw
          case rel=>
            refine ⟨j+1,cur.drop (k+1),out++[cur.take k],ω,rfl,by go_num,by rw [List.length_append,HOL.out];rfl,by rw [HPC.out,HP.out,List.append_assoc];rfl,by rw [List.length_drop];omega,?_,HB.out.setCell (p:=⟨w.heap.size,j,none⟩) (Nat.le_refl _) _⟩
            have q:=HK.out.set j (σ (cur.take k))
            have hr:=HRS.out (cur.take k)
            rw [HOL.out] at hr
            rw [hr] at q
            exact q
          case measure=>simp [intOf];omega
end
section
open Go.RowKit Go.Shelf
def Kd (rest:Λ):Option (List ByteArray):=if (Bj rest).length≤6∧((Bj rest).map Ai).all DJ=true then some ((Bj rest).map Ai) else none
def NP:Λ→Option (List ByteArray)
  | b::r=>if b=47 then Kd r else none
  | []=>none
def Cj (X:Λ):Option (List ByteArray):=if X=[47] then some [] else NP X
def erO (o:Option (List ByteArray)):Int:=match o with | some _=>0 | none=>15
def Tx (w:World) (o:Option (List ByteArray)) (e:Ending) (w':World):Prop:=
  ∃ a c,e=.returned (.tuple #[.slice a (o.getD []).length c,ν (erO o)])∧Acl w' w.heap.size a c (o.getD [])∧Below w.heap.size w w'
theorem Iu {w w':World} {o:Option (List ByteArray)} {e:Ending} (ho:o=none) (he:e=.returned (.tuple #[.slice none 0 0,ν 15])) (hb:Below w.heap.size w w'):Tx w o e w':=by
  subst ho;exact ⟨none,0,he,Own.nil _ _ _ _,hb⟩
theorem Rq {w w':World} {o:Option (List ByteArray)} {e:Ending} (ho:o=some []) (he:e=.returned (.tuple #[.slice none 0 0,ν 0])) (hb:Below w.heap.size w w'):Tx w o e w':=by
  subst ho;exact ⟨none,0,he,Own.nil _ _ _ _,hb⟩
theorem Rr {w w':World} {o:Option (List ByteArray)} {e:Ending} {L:List ByteArray} {a:Ω} {c:Nat} (ho:o=some L) (he:e=.returned (.tuple #[.slice a L.length c,ν 0])) (h:Acl w' w.heap.size a c L) (hb:Below w.heap.size w w'):Tx w o e w':=by
  subst ho;exact ⟨a,c,he,h,hb⟩
theorem OL {x:ByteArray} (h:(47:UInt8)∈x.data.toList):DJ x=false:=by
  have:Rt x=false:=by
    unfold Rt
    rw [List.all_eq_false]
    exact ⟨47,h,by decide⟩
  unfold DJ;rw [this];simp
theorem Te (X:Λ) (hX:X.length≤1000) (w:World):Calls prog 136 #[σ X,.string ⟨#[47]⟩,ν 6] w (Rs w X):=by
  have HG:=OA X hX w
  unfold Rs at HG ⊢
  have HG:=hid HG
  go_enter func136,ntmps136
  go_wp2_with (go_at_call 155;fail)
  refine (HG.out).mono ?_
  rintro e w1 ⟨a,c,R,rfl,o,b,h⟩
  have O:=hid o;have B:=hid b;have H:=hid h
  clear o b h
  go_wp2_with fail
  go_ret
  exact ⟨a,c,R,rfl,O.out,B.out,H.out⟩
theorem RF (r:List UInt8) (w:World):Calls Tryz.prog 135 #[.string (Ai (47::r)),.string ⟨#[47]⟩] w fun e w'=>e=.returned (.tuple #[.string (Ai r),.bool true])∧w=w':=by
  have x1:(Ai (47::r)).extract 0 1=⟨#[47]⟩:=by rw [IX];rfl
  have x2:(Ai (47::r)).extract 1 (r.length+1)=Ai r:=Lz (47::r) 1
  have hs:(Ai (47::r)).size=r.length+1:=Fd _
  generalize Ai (47::r)=s at *
  have d1:decide ((1:Int)≤(r.length:Int)+1)=true:=decide_eq_true (by omega)
  have i1:(1:Int)≤((r.length+1:Nat):Int):=by omega
  have HX2:=hid x2;have HS:=hid hs
  have x3:s.extract 1 s.size=Ai r:=by rw [hs];exact x2
  have i2:(1:Int)≤s.size:=by omega
  have d2:decide ((1:Int)≤(s.size:Int))=true:=decide_eq_true i2
  clear x2 hs d1 i1
  go_enter Tryz.func135,Tryz.ntmps135
  go_wp2
  go_ret2
  exact ⟨rfl,rfl⟩
theorem Nn (X:List UInt8) (hX:∀ b r,X=b::r→b≠47) (w:World):Calls Tryz.prog 135 #[.string (Ai X),.string ⟨#[47]⟩] w fun e w'=>e=.returned (.tuple #[.string (Ai X),.bool false])∧w=w':=by
  cases X with
  | nil=>
    have hs:(Ai []).size=0:=rfl
    generalize Ai []=s at *
    go_enter Tryz.func135,Tryz.ntmps135
    go_wp2
    go_ret2
    exact ⟨rfl,rfl⟩
  | cons b r=>
    have hb:¬ b=47:=hX b r rfl
    have x1:(Ai (b::r)).extract 0 1=⟨#[b]⟩:=by rw [IX];rfl
    have hs:(Ai (b::r)).size=r.length+1:=Fd _
    generalize Ai (b::r)=s at *
    have i2:(1:Int)≤s.size:=ω
    have d2:decide ((1:Int)≤(s.size:Int))=true:=decide_eq_true i2
    have e1:((⟨#[b]⟩:ByteArray).toList == [47])=false:=by rw [Qb];simpa using hb
    have e2:([b] == [(47:UInt8)])=false:=by simpa using hb
    have e3:=Qb b
    clear hs hX
    go_enter Tryz.func135,Tryz.ntmps135
    go_wp2
    go_ret2
    exact ⟨rfl,rfl⟩
end
end Go.Proofs.YtpnknncmacjdkaaGreatDoor
