/- Parts of the proof. -/
import Derived.Laws.EntriesVeiled
import Derived.Test.YtpnknncmacjdkaaGreatDoorQac
namespace Go.Proofs.YtpnknncmacjdkaaGreatDoor
open Go.RowKit
open _root_.Go.Proofs.Tryz
set_option linter.unusedSimpArgs false
set_option linter.unusedVariables false
set_option linter.unusedSectionVars false
set_option maxRecDepth 100000
set_option maxHeartbeats 8000000
section
theorem Im (x y:Operand) (v u:Int) (w:World) {b:Bool} (h:decide (u<v)=b):(do eqGuard .gtr 3 x y (ν v) (ν u);binOp .gtr 3 (ν v) (ν u):Sem Value).run prog w=.ok (.bool b) w:=by
  have u3:=υ3
  have a3:=Tryz.isAgg3
  have z3:=Tryz.sizeOf3
  go_simp
theorem KO (x y:Operand) (v u:Int) (w:World) {b:Bool} (h:decide (v<u)=b):(do eqGuard .lss 3 x y (ν v) (ν u);binOp .lss 3 (ν v) (ν u):Sem Value).run prog w=.ok (.bool b) w:=by
  have u3:=υ3
  have a3:=Tryz.isAgg3
  have z3:=Tryz.sizeOf3
  go_simp
theorem Nh (x y:Operand) (j:Nat) (hj:j≤1000000) (w:World):(do eqGuard .add 3 x y (ν (j:Int)) (ν 1);binOp .add 3 (ν (j:Int)) (ν 1):Sem Value).run prog w=.ok (ν ((j+1:Nat):Int)) w:=by
  have u3:=υ3
  have a3:=Tryz.isAgg3
  have z3:=Tryz.sizeOf3
  have e1:IntKind.i64.wrap ((j:Int)+1)=(j:Int)+1:=IntWalk.i64_in _ ω
  go_simp
theorem ixP (b off n c j:Nat) (hj:j<n) (w:World):(Instr.indexAt 89 (.slice (some ⟨b,off,none⟩) n c) (ν (j:Int))).run prog w=.ok (.pointer (some ⟨b,off+j*2,none⟩)) w:=by
  have u3:=υ89
  have u9:=υ141
  have z3:=Tryz.sizeOf141
  have d0:(j:Int)<(n:Int):=ω
  have d1:0≤(j:Int):=ω
  go_simp
theorem Fq {o:Oper} {x:Operand} (ho:o.op=.call { callee:=.builtin .len,args:=#[x],argTypes:=#[89] }) {ρ:Operand→Value} {a:Ω} {n c:Nat} (hx:ρ x=.slice a n c) (w:World):(execOp ρ o).run prog w=.ok (.value (ν (n:Int))) w:=by
  unfold execOp;rw [ho]
  have u3:=υ89
  simp [resolve,invoke,builtin,hx]
  go_simp
theorem El {o:Oper} {x:Operand} (ho:o.op=.call { callee:=.builtin .len,args:=#[x],argTypes:=#[22] }) {ρ:Operand→Value} {a:Ω} {n c:Nat} (hx:ρ x=.slice a n c) (w:World):(execOp ρ o).run prog w=.ok (.value (ν (n:Int))) w:=by
  unfold execOp;rw [ho]
  have u3:=υ22
  simp [resolve,invoke,builtin,hx]
  go_simp
theorem Cq {o:Oper} {x:Operand} (ho:o.op=.call { callee:=.builtin .len,args:=#[x],argTypes:=#[9] }) {ρ:Operand→Value} {s:Λ} (hx:ρ x=Am s) (w:World):(execOp ρ o).run prog w=.ok (.value (ν (s.length:Int))) w:=by
  unfold execOp;rw [ho]
  have u3:=υ9
  have hsz:=CJ s
  simp [resolve,invoke,builtin,hx,Am]
  go_simp
theorem TG (n:Nat) (h:n<4294967296) (w:World):(convert 129 3 (.int .u32 (n:Int))).run prog w=.ok (ν (n:Int)) w:=by
  have u3:=υ3
  have u4:=υ129
  have e1:IntKind.i64.wrap (n:Int)=(n:Int):=IntWalk.i64_in _ ω
  go_simp
theorem Pd {P:Program} {o:Oper} {ty:TypeId} {x:Operand} {w:World} (ho:o.op=.unOp .not ty x) {ρ:Operand→Value} {b:Bool} (hb:ρ x=.bool b):(execOp ρ o).run P w=.ok (.value (.bool (!b))) w:=by
  unfold execOp
  rw [ho]
  simp only [hb]
  go_simp
theorem MU {P:Program} {ops:Array Oper} {Q:Exit→Act→World→Prop} {rest:List Oper} {o:Oper} {a:Act} {w:World} {N:Nat} {l:List (Nat×Value)} (h:Kn N l a) (hw:o.guard=none) (hd:o.dst=none) {T:TypeId} {x y:Operand} (ho:o.op=.store T x y) (g off:Nat) (hx:a.eval x=.pointer (some ⟨g,off,none⟩)) (vs:List Value) (hy:a.eval y=.agg vs.toArray) (hn:(P.info? T).map (·.size)=some vs.length) (h1:∀ v∈vs,v.oneCell'=true) {e:TypeId} {L:List Value} (hb:Blk w g e L) (hL:off+vs.length≤L.length)
    (k:∀ a' w',Kn N l a'→Blk w' g e (splice L off vs)→w.grownBy w' (some g)→wpList P ops Q rest a' w'):wpList P ops Q (o::rest) a w:=by
  refine IL hw T x y ho g off hx vs hy hn h1 hb hL fun w' hb' hg=>?_
  rw [hd]
  exact k a w' h hb' hg
theorem Hi (n:Nat) (hn:n≤1000000) (w:World):Calls prog 110 #[ν (n:Int)] w fun e w'=>e=.returned (ν (Bl n:Int))∧w=w':=by
  have hu:upF (n:Int) 8=(n:Int)+(Bl n:Int):=by
    unfold upF
    have hr:Ds (n:Int) 8=true:=Mu.2 ⟨ω,ω,ω,ω⟩
    rw [if_pos hr]
    have:=Yv n
    omega
  have ez:IntKind.i64.wrap ((n:Int)+(Bl n:Int)-(n:Int))=(Bl n:Int):=by rw [show (n:Int)+(Bl n:Int)-(n:Int)=(Bl n:Int) by omega];exact IntWalk.i64_in _ (by unfold Bl;omega)
  have HU:=hid (fun w1=>Aej (n:Int) 8 w1)
  rw [hu] at HU
  clear hu
  go_enter func110,ntmps110
  go_wp2_with fail
  refine (HU.out _).mono ?_
  rintro e w1 ⟨rfl,rfl⟩
  go_wp2_with fail
  go_ret
  exact ⟨rfl,rfl⟩
theorem JN (g:Nat) (w:World):(Instr.fieldAt 141 (π g) 0).run prog w=.ok (π g) w:=rfl
theorem JO (g:Nat) (w:World):(Instr.fieldAt 141 (π g) 1).run prog w=.ok (.pointer (some ⟨g,1,none⟩)) w:=rfl
end
section
theorem Uq {w:World} {a:Ω} {c:Nat} {xs:Λ} (r:RowB w a c xs) (lo hi:Nat) (h1:lo≤hi) (h2:hi≤xs.length) :
    ∃ dp,sliced a lo hi c 1=.slice dp (hi-lo) (c-lo)∧RowB w dp (c-lo) ((xs.drop lo).take (hi-lo)):=by
  have hc:=r.2.1
  have hm:=r.2.2.1
  have hl:((xs.drop lo).take (hi-lo)).length=hi-lo:=by simp;omega
  cases a with
  | none=>
    have h0:c=0:=r.2.2.2.1 rfl
    subst h0
    have:lo=0:=ω
    subst this
    have:hi=0:=ω
    subst this
    refine ⟨none,?_,?_⟩
    · unfold sliced;simp
    · exact ⟨by simp,by simp,ω,fun _=>rfl,fun q=>absurd q (by simp)⟩
  | some ad=>
    by_cases hcl:c=lo
    · subst hcl
      have:hi=c:=ω
      subst this
      refine ⟨some ad,?_,?_⟩
      · unfold sliced;simp
      · exact ⟨by simp,by simp,ω,(fun q=>by cases q),fun q=>absurd q (by rw [hl];omega)⟩
    · by_cases hn:0<xs.length
      · obtain ⟨b,off,e,_⟩:=r.bytes hn
        cases e
        refine ⟨some ⟨b,off+lo,none⟩,?_,?_⟩
        · unfold sliced;rw [if_neg ω];simp [Addr.add_mid]
        · have:=Mw r lo (hi-lo) ω
          exact this
      · have:lo=0:=ω
        subst this
        have:hi=0:=ω
        subst this
        refine ⟨some ad,?_,?_⟩
        · unfold sliced
          rw [if_neg ω]
          simp [Addr.add]
        · exact ⟨by simp,by simp,ω,(fun q=>by cases q),fun q=>absurd q (by simp)⟩
theorem szB (w:World):(sizeOf 5).run prog w=.ok 1 w:=κ
theorem elB:prog.elem 22=5:=κ
theorem unB:prog.underlying 22=some (.slice (prog.elem 22)):=by rw [elB];exact υ22
theorem Abu {w:World} {a:Ω} {c:Nat} {xs:Λ} (r:RowB w a c xs) (lo hi:Nat) (h1:lo≤hi) (h2:hi≤xs.length) :
    ∃ dp,(∀ W,(Instr.sliceAt 22 (.slice a xs.length c) (some (ν (lo:Int))) (some (ν (hi:Int))) none).run prog W=.ok (.slice dp (hi-lo) (c-lo)) W)∧RowB w dp (c-lo) ((xs.drop lo).take (hi-lo)):=by
  obtain ⟨dp,e,rr⟩:=Uq r lo hi h1 h2
  have hc:=r.2.1
  refine ⟨dp,fun W=>?_,rr⟩
  rw [run_sliceAt_slice W _ _ _ _ _ unB,run_slice_lh W _ _ _ _ unB _ _ _ _ ω ω ω,elB,szB]
  show Result.ok (sliced _ _ _ _ _) W=_
  rw [Int.toNat_natCast,Int.toNat_natCast,e]
theorem Aei {w:World} {a:Ω} {c:Nat} {xs:Λ} (r:RowB w a c xs) (lo:Nat) (h1:lo≤xs.length) :
    ∃ dp,(∀ W,(Instr.sliceAt 22 (.slice a xs.length c) (some (ν (lo:Int))) none none).run prog W=.ok (.slice dp (xs.length-lo) (c-lo)) W)∧RowB w dp (c-lo) (xs.drop lo):=by
  obtain ⟨dp,e,rr⟩:=Uq r lo xs.length h1 (Nat.le_refl _)
  refine ⟨dp,fun W=>?_,by rw [List.take_of_length_le (by rw [List.length_drop];omega)] at rr;exact rr⟩
  rw [run_sliceAt_slice W _ _ _ _ _ unB,run_slice_l W _ _ _ _ unB _ _ ω ω,elB,szB]
  show Result.ok (sliced _ _ _ _ _) W=_
  rw [Int.toNat_natCast,e]
theorem Aeh {w:World} {a:Ω} {c:Nat} {xs:Λ} (r:RowB w a c xs) (hi:Nat) (h2:hi≤xs.length) :
    (∀ W,(Instr.sliceAt 22 (.slice a xs.length c) none (some (ν (hi:Int))) none).run prog W=.ok (.slice a hi c) W)∧RowB w a c (xs.take hi):=by
  have hc:=r.2.1
  refine ⟨fun W=>?_,DC r hi⟩
  rw [run_sliceAt_slice W _ _ _ _ _ unB,run_slice_h W _ _ _ _ unB _ _ ω ω,elB,szB]
  show Result.ok (sliced _ _ _ _ _) W=_
  rw [Int.toNat_natCast]
  unfold sliced
  simp only [Nat.sub_zero,Nat.zero_mul]
  split
  · rfl
  · cases a with
    | none=>rfl
    | some p=>simp [Addr.add]
structure DS where
  at_:Nat
  no:Bool
def Bh (xs:Λ) (s:DS) (n:Nat):Λ×DS:=if s.no=true∨xs.length<s.at_+n then ([],⟨s.at_,true⟩) else ((xs.drop s.at_).take n,⟨s.at_+n,false⟩)
def Bg (xs:Λ) (s:DS) (k:Nat):Nat×DS:=((AC (Bh xs s k).1 0 k).getD 0,(Bh xs s k).2)
structure DIn (w:World) (Bb Ba Bs:Nat) (a:Ω) (c:Nat) (xs:Λ) (s:DS):Prop where
  b:Blk w Bb 22 [.slice a xs.length c]
  p:Blk w Ba 3 [ν (s.at_:Int)]
  f:Blk w Bs 4 [.bool s.no]
  at_:s.at_≤xs.length
theorem DIn.nbs {w:World} {Bb Ba Bs:Nat} {a:Ω} {c:Nat} {xs:Λ} {s:DS} (h:DIn w Bb Ba Bs a c xs s):Bb≠Bs:=Df h.b h.f (by decide)
theorem DIn.nba {w:World} {Bb Ba Bs:Nat} {a:Ω} {c:Nat} {xs:Λ} {s:DS} (h:DIn w Bb Ba Bs a c xs s):Bb≠Ba:=Df h.b h.p (by decide)
theorem DIn.nas {w:World} {Bb Ba Bs:Nat} {a:Ω} {c:Nat} {xs:Λ} {s:DS} (h:DIn w Bb Ba Bs a c xs s):Ba≠Bs:=Df h.p h.f (by decide)
theorem GC (w:World) (g i:Nat) (v:Value):Turns (fun k=>k=g) w (w.setCell ⟨g,i,none⟩ v):=(Turns.refl (fun k=>k=g) w).setCell (p:=⟨g,i,none⟩) rfl v
theorem DIn.setS {w:World} {Bb Ba Bs:Nat} {a:Ω} {c:Nat} {xs:Λ} {s:DS} (h:DIn w Bb Ba Bs a c xs s) (b:Bool):DIn (w.setCell ⟨Bs,0,none⟩ (.bool b)) Bb Ba Bs a c xs ⟨s.at_,b⟩:=
  ⟨(GC w Bs 0 _).blk h.b h.nbs,(GC w Bs 0 _).blk h.p h.nas,Blk.set h.f 0 _,h.at_⟩
theorem DIn.setA {w:World} {Bb Ba Bs:Nat} {a:Ω} {c:Nat} {xs:Λ} {s:DS} (h:DIn w Bb Ba Bs a c xs s) (n:Nat) (hn:n≤xs.length):DIn (w.setCell ⟨Ba,0,none⟩ (ν (n:Int))) Bb Ba Bs a c xs ⟨n,s.no⟩:=
  ⟨(GC w Ba 0 _).blk h.b h.nba,Blk.set h.p 0 _,(GC w Ba 0 _).blk h.f (fun q=>h.nas q.symm),hn⟩
theorem DIn.mono {w w':World} {Bb Ba Bs:Nat} {a:Ω} {c:Nat} {xs:Λ} {s:DS} (h:DIn w Bb Ba Bs a c xs s) (b:Below w.heap.size w w'):DIn w' Bb Ba Bs a c xs s:=⟨h.b.mono b,h.p.mono b,h.f.mono b,h.at_⟩
theorem Ej {w:World} {g off:Nat} {b:Bool} (h:w.cell? ⟨g,off,none⟩=some (.bool b)):(Instr.loadAt 4 (.pointer (some ⟨g,off,none⟩))).run prog w=.ok (.bool b) w:=by
  have u3:=υ4
  have a3:=Tryz.isAgg4
  have z3:=Tryz.sizeOf4
  go_simp
theorem OJ {w:World} {g off:Nat} {a:Ω} {n c:Nat} (h:w.cell? ⟨g,off,none⟩=some (.slice a n c)):(Instr.loadAt 22 (.pointer (some ⟨g,off,none⟩))).run prog w=.ok (.slice a n c) w:=by
  have u3:=υ22
  have a3:=Tryz.isAgg22
  have z3:=Tryz.sizeOf22
  go_simp
theorem Lf {w:World} {g off:Nat} {u:Value} (h:w.cell? ⟨g,off,none⟩=some u) (hz:w.frozen? ⟨g,off,none⟩=false) (b:Bool):(Instr.storeAt 4 (.pointer (some ⟨g,off,none⟩)) (.bool b)).run prog w=.ok () (w.setCell ⟨g,off,none⟩ (.bool b)):=by
  have u3:=υ4
  have a3:=Tryz.isAgg4
  have z3:=Tryz.sizeOf4
  go_simp
theorem Ur {w:World} {g off:Nat} {u:Value} (h:w.cell? ⟨g,off,none⟩=some u) (hz:w.frozen? ⟨g,off,none⟩=false) (n:Int):(Instr.storeAt 3 (.pointer (some ⟨g,off,none⟩)) (ν n)).run prog w=.ok () (w.setCell ⟨g,off,none⟩ (ν n)):=by
  have u3:=υ3
  have a3:=Tryz.isAgg3
  have z3:=Tryz.sizeOf3
  go_simp
theorem FO {P:Program} {s:Sem Unit} {w w':World} (h:s.run P w=.ok () w'):(do s;pure Next.skip:Sem Next).run P w=.ok .skip w':=by
  rw [Sem.run_bind,h];rfl
theorem Dx {P:Program} {ops:Array Oper} {Q:Exit→Act→World→Prop} {rest:List Oper} {o:Oper} {a:Act} {w w':World} {N:Nat} {l:List (Nat×Value)} (h:Kn N l a) (hw:Region.wanted o (yielded ops a.tmps)=true) (hd:o.dst=none)
    (hr:(execOp a.eval o).run P w=.ok .skip w') (k:∀ a',Kn N l a'→wpList P ops Q rest a' w'):wpList P ops Q (o::rest) a w:=by
  refine wpList_step fun K hK=>?_
  rw [if_pos hw]
  unfold Oper.wp
  rw [hr,Oper.upon_skip,hd]
  exact hK _ _ (k _ h)
theorem FH (x y:Operand) (i j k:Int) (hk:i-j=k) (h1:-9223372036854775808≤k) (h2:k≤9223372036854775807) (w:World):(do eqGuard .sub 3 x y (ν i) (ν j);binOp .sub 3 (ν i) (ν j):Sem Value).run prog w=.ok (ν k) w:=by
  have u3:=υ3
  have a3:=Tryz.isAgg3
  have z3:=Tryz.sizeOf3
  subst hk
  have e1:IntKind.i64.wrap (i-j)=i-j:=IntWalk.i64_in _ ω
  go_simp
theorem Ni (x y:Operand) (i j k:Int) (hk:i+j=k) (h1:-9223372036854775808≤k) (h2:k≤9223372036854775807) (w:World):(do eqGuard .add 3 x y (ν i) (ν j);binOp .add 3 (ν i) (ν j):Sem Value).run prog w=.ok (ν k) w:=by
  have u3:=υ3
  have a3:=Tryz.isAgg3
  have z3:=Tryz.sizeOf3
  subst hk
  have e1:IntKind.i64.wrap (i+j)=i+j:=IntWalk.i64_in _ ω
  go_simp
theorem KP (s:ByteArray) (cap:Nat):bytesRow s cap=((s.data.toList.map Ad)++List.replicate (cap-s.size) (Value.int .u8 0)).toArray:=by
  apply Array.ext'
  simp [bytesRow,Ad]
theorem My (w:World) (s:ByteArray) (hs:s.size≤1000000) :
    RowB (w.alloc (.cells (bytesRow s (grownCap w s.size 0 5)) 5 ((bytesRow s (grownCap w s.size 0 5)).size,(bytesRow s (grownCap w s.size 0 5)).size+1))).drew (some ⟨w.heap.size,0,none⟩) (grownCap w s.size 0 5) s.data.toList:=by
  have hlen:s.data.toList.length=s.size:=by simp
  have hge:=grownCap_ge w s.size 0 5
  have hcm:grownCap w s.size 0 5≤maxLen:=grownCap_le_maxLen w s.size 0 5 (by unfold maxLen;omega)
  refine Row.drew (w:=w.alloc _) ⟨by simp,ω,hcm,(fun h=>by cases h),fun _=>⟨w.heap.size,0,rfl,by simp,fun j u hu=>?_⟩⟩
  have hh:=heap_alloc_new w (.cells (bytesRow s (grownCap w s.size 0 5)) 5 ((bytesRow s (grownCap w s.size 0 5)).size,(bytesRow s (grownCap w s.size 0 5)).size+1))
  unfold World.cell?
  rw [show (⟨w.heap.size,0+j,none⟩:Addr).block=w.heap.size from rfl,hh]
  have hj:=(List.getElem?_eq_some_iff.1 hu).1
  simp only [Nat.zero_add,Option.isSome_none,Bool.false_eq_true,if_false]
  rw [KP]
  rw [List.getElem?_toArray,List.getElem?_append_left hj]
  exact hu
theorem Gm (W:World) (l:Λ) (hl:l.length≤1000000):∃ c W',(convert 9 22 (Am l)).run prog W=.ok (.slice (some ⟨W.heap.size,0,none⟩) l.length c) W'∧RowB W' (some ⟨W.heap.size,0,none⟩) c l∧Below W.heap.size W W':=by
  have h1:=run_bytes_of_string (P:=prog) W 9 22 5 (bsB l) υ9 υ22 υ5
  have h2:=My W (bsB l) (by rw [CJ];exact hl)
  rw [GS] at h2
  rw [CJ] at h1
  exact ⟨_,_,h1,h2,((Below.refl _ W).alloc (Nat.le_refl _) _).drew⟩
theorem Fe {P:Program} {ops:Array Oper} {Q:Exit→Act→World→Prop} {rest:List Oper} {o:Oper} {a:Act} {w:World} {N:Nat} {l:List (Nat×Value)} (h:Kn N l a) (hw:Region.wanted o (yielded ops a.tmps)=true) {d:Nat} (hd:o.dst=some d) (hdN:d<N) (hf:∀ x∈l,x.1≠d)
    {fn:FuncId} (hcf:∀ args,(callFunc fn args).run P w=.ok (.enter fn args) w) {y:Operand} {xs:Array Operand} {ts:Array TypeId} (p:o.op=.call { callee:=.value y,args:=xs,argTypes:=ts }) (vs caps:Array Value) (hy:a.eval y=.func (.func fn) #[] caps) (hx:xs.map a.eval=vs)
    {R:Value→World→Prop} (HC:Calls P fn (vs++caps) w fun e w'=>∃ v,e=.returned v∧R v w') (k:∀ a' v w',R v w'→Kn N ((d,v)::l) a'→wpList P ops Q rest a' w'):wpList P ops Q (o::rest) a w:=by
  refine wpList_step fun K hK=>?_
  rw [if_pos hw]
  have hrun:(execOp a.eval o).run P w=.ok (.enter fn (vs++caps)) w:=by
    unfold execOp;rw [p]
    simp [resolve,invoke,Deferred.ofValue,hx,hy,hcf]
  unfold Oper.wp
  rw [hrun,Oper.upon_enter]
  refine HC.mono ?_
  rintro e w' ⟨v,rfl,hv⟩
  simp only
  refine hK _ _ ?_
  rw [hd]
  exact k _ v w' hv (h.put hdN hf v)
theorem OH {w:World} {g off:Nat} {f:Fn} {x y:Array Value} (h:w.cell? ⟨g,off,none⟩=some (.func f x y)):(Instr.loadAt 170 (.pointer (some ⟨g,off,none⟩))).run prog w=.ok (.func f x y) w:=by
  have u3:=υ170
  have a3:=Tryz.isAgg170
  have z3:=Tryz.sizeOf170
  go_simp
end
section
theorem Oa {w:World} {Bb Ba Bs:Nat} {a:Ω} {c:Nat} {xs:Λ} {s:DS} (h0:DIn w Bb Ba Bs a c xs s) (hR:∀ W,Turns (fun k=>k=Ba∨k=Bs) w W→RowB W a c xs) (hl:xs.length≤1000000) (n:Nat) (hn:n≤1000000) :
    Calls prog 108 #[ν (n:Int),π Bs,π Bb,π Ba] w fun e w'=>∃ v,e=.returned v∧v=Am (Bh xs s n).1∧DIn w' Bb Ba Bs a c xs (Bh xs s n).2∧Turns (fun k=>k=Ba∨k=Bs) w w':=by
  have hat:=h0.at_
  have H0:=hid h0
  have HR:=hid hR
  clear h0 hR
  go_enter func108,ntmps108
  iterate 3 go_step
  refine Bk (N:=26) (l:=[(0,ν (n:Int)),(1,π Bs),(2,π Bb),(3,π Ba)]) ⟨rfl,(by intro x hx;simp only [List.mem_cons,List.not_mem_nil,or_false] at hx;rcases hx with rfl | rfl | rfl | rfl<;>rfl),rfl⟩ fun a2 h1=>wv h1 rfl rfl rfl rfl (Am []) (by unfold execOp;rfl) fun a4 h3=>?_
  iterate 3 go_step
  cases hno:s.no with
  | true=>
    have hbad:Bh xs s n=([],⟨s.at_,true⟩):=by unfold Bh;rw [if_pos (Or.inl hno)]
    iterate 3 go_step
    refine wv h3 rfl rfl rfl rfl (.bool true) (by unfold execOp;simp only [h3.ev 1 rfl];exact Af (Ej (by have z:=H0.out.f.cell (i:=0) (by simp);rw [hno] at z;exact z))) fun a6 h5=>mv h5 rfl fun _ h7=>Bf h7 (by rw [Ae (g:=1) (want:=false) (b:=true) rfl (h7.yields (prev:=7) rfl (by simp))];rfl) rfl (by decide) (fr rfl) fun a1 h9=>Bf h9 (by rw [Ae (g:=1) (want:=false) (b:=true) rfl (h9.yields (prev:=7) rfl (by simp))];rfl) rfl (by decide) (fr rfl) fun a3 h2=>Bf h2 (by rw [Ae (g:=1) (want:=false) (b:=true) rfl (h2.yields (prev:=7) rfl (by simp))];rfl) rfl (by decide) (fr rfl) fun a5 h4=>Bf h4 (by rw [Ae (g:=1) (want:=false) (b:=true) rfl (h4.yields (prev:=7) rfl (by simp))];rfl) rfl (by decide) (fr rfl) fun a7 h6=>Bf h6 (by rw [Ae (g:=1) (want:=false) (b:=true) rfl (h6.yields (prev:=7) rfl (by simp))];rfl) rfl (by decide) (fr rfl) fun a8 h8=>Bf h8 (by rw [Ae (g:=1) (want:=false) (b:=true) rfl (h8.yields (prev:=7) rfl (by simp))];rfl) rfl (by decide) (fr rfl) fun a9 h10=>wv h10 rfl rfl rfl rfl (.bool true) (BR rfl (h10.ev 7 rfl) rfl) fun a10 h11=>?_
    obtain ⟨w1,hw1⟩:∃ x,x=w.setCell ⟨Bs,0,none⟩ (.bool true):=⟨_,rfl⟩
    have H1:Hid (DIn w1 Bb Ba Bs a c xs ⟨s.at_,true⟩):=hid (by rw [hw1];exact H0.out.setS _)
    have T1:Hid (Turns (fun k=>k=Ba∨k=Bs) w w1):=hid (by rw [hw1];exact (GC w Bs 0 _).mono (fun _ q=>.inr q))
    refine Dx h11 (wn rfl) rfl (w':=w1) (by rw [hw1];unfold execOp;simp only [h11.ev 1 rfl,h11.ev 14 rfl];exact FO (Lf (H0.out.f.cell (i:=0) (by simp)) (H0.out.f.frozen 0) _)) fun a11 h12=>h12.sk [5,0,1,2,3] rfl fun h13=>?_
    iterate 5 go_step
    refine wv h13 rfl rfl rfl rfl (.bool true) (by unfold execOp;simp only [h13.ev 1 rfl];exact Af (Ej (by have z:=H1.out.f.cell (i:=0) (by simp);rw [show (⟨s.at_,true⟩:DS).no=true from rfl] at z;exact z))) fun a12 h14=>?_
    iterate 3 go_step
    refine wp_cond (t:=true) (h14.ev 15 rfl) ?_
    simp only [if_true]
    refine h14.sk [5,0,1,2,3] rfl fun h15=>?_
    iterate 2 go_step
    refine h15.sk [0,1,2,3] rfl fun h16=>wv h16 rfl rfl rfl rfl (Am []) (by unfold execOp;rfl) fun a13 h17=>?_
    iterate 4 go_step
    simp only [Exit.then,Exit.inBlock]
    show bodyPost _ _ _ Exit.ret _ _
    refine bodyPost_ret (AL rfl (h17.known (5,Am []) (by simp))) h17.defs ?_
    refine ⟨_,rfl,?_,?_,T1.out⟩
    · rw [hbad]
    · rw [hbad];exact H1.out
  | false=>
    by_cases hlt:xs.length<s.at_+n
    · have hgt:decide (((xs.length-s.at_:Nat):Int)<(n:Int))=true:=decide_eq_true ω
      have hbad:Bh xs s n=([],⟨s.at_,true⟩):=by unfold Bh;rw [if_pos (Or.inr hlt)]
      iterate 3 go_step
      refine wv h3 rfl rfl rfl rfl (.bool false) (by unfold execOp;simp only [h3.ev 1 rfl];exact Af (Ej (by have z:=H0.out.f.cell (i:=0) (by simp);rw [hno] at z;exact z))) fun a14 h18=>mv h18 rfl fun _ h19=>Ak h19 (by rw [Ae (g:=1) (want:=false) (b:=false) rfl (h19.yields (prev:=7) rfl (by simp))];rfl) rfl (by decide) (fr rfl) (ν (n:Int)) (by unfold execOp;simp only [h19.ev 0 rfl];rfl) fun a15 h20=>Ak h20 (by rw [Ae (g:=1) (want:=false) (b:=false) rfl (h20.yields (prev:=7) rfl (by simp))];rfl) rfl (by decide) (fr rfl) (.slice a xs.length c) (by unfold execOp;simp only [h20.ev 2 rfl];exact Af (OJ (H0.out.b.cell (i:=0) (by simp)))) fun a16 h21=>Ak h21 (by rw [Ae (g:=1) (want:=false) (b:=false) rfl (h21.yields (prev:=7) rfl (by simp))];rfl) rfl (by decide) (fr rfl) (ν (xs.length:Int)) (El rfl (h21.ev 9 rfl) _) fun a17 h22=>Ak h22 (by rw [Ae (g:=1) (want:=false) (b:=false) rfl (h22.yields (prev:=7) rfl (by simp))];rfl) rfl (by decide) (fr rfl) (ν (s.at_:Int)) (by unfold execOp;simp only [h22.ev 3 rfl];exact Af (Cy (H0.out.p.cell (i:=0) (by simp)))) fun a18 h23=>Ak h23 (by rw [Ae (g:=1) (want:=false) (b:=false) rfl (h23.yields (prev:=7) rfl (by simp))];rfl) rfl (by decide) (fr rfl) (ν ((xs.length-s.at_:Nat):Int)) (by unfold execOp;simp only [h23.ev 10 rfl,h23.ev 11 rfl];exact Af (FH _ _ _ _ _ ω ω ω _)) fun a19 h24=>Ak h24 (by rw [Ae (g:=1) (want:=false) (b:=false) rfl (h24.yields (prev:=7) rfl (by simp))];rfl) rfl (by decide) (fr rfl) (.bool true) (by unfold execOp;simp only [h24.ev 8 rfl,h24.ev 12 rfl];exact Af (Im _ _ _ _ _ hgt)) fun a20 h25=>wv h25 rfl rfl rfl rfl (.bool true) (BR rfl (h25.ev 7 rfl) (by rw [if_neg (by simp)];exact h25.ev 13 rfl)) fun a21 h26=>?_
      obtain ⟨w1,hw1⟩:∃ x,x=w.setCell ⟨Bs,0,none⟩ (.bool true):=⟨_,rfl⟩
      have H1:Hid (DIn w1 Bb Ba Bs a c xs ⟨s.at_,true⟩):=hid (by rw [hw1];exact H0.out.setS _)
      have T1:Hid (Turns (fun k=>k=Ba∨k=Bs) w w1):=hid (by rw [hw1];exact (GC w Bs 0 _).mono (fun _ q=>.inr q))
      refine Dx h26 (wn rfl) rfl (w':=w1) (by rw [hw1];unfold execOp;simp only [h26.ev 1 rfl,h26.ev 14 rfl];exact FO (Lf (H0.out.f.cell (i:=0) (by simp)) (H0.out.f.frozen 0) _)) fun a22 h27=>h27.sk [5,0,1,2,3] rfl fun h28=>?_
      iterate 5 go_step
      refine wv h28 rfl rfl rfl rfl (.bool true) (by unfold execOp;simp only [h28.ev 1 rfl];exact Af (Ej (by have z:=H1.out.f.cell (i:=0) (by simp);rw [show (⟨s.at_,true⟩:DS).no=true from rfl] at z;exact z))) fun a23 h29=>?_
      iterate 3 go_step
      refine wp_cond (t:=true) (h29.ev 15 rfl) ?_
      simp only [if_true]
      refine h29.sk [5,0,1,2,3] rfl fun h30=>?_
      iterate 2 go_step
      refine h30.sk [0,1,2,3] rfl fun h31=>wv h31 rfl rfl rfl rfl (Am []) (by unfold execOp;rfl) fun a24 h32=>?_
      iterate 4 go_step
      simp only [Exit.then,Exit.inBlock]
      show bodyPost _ _ _ Exit.ret _ _
      refine bodyPost_ret (AL rfl (h32.known (5,Am []) (by simp))) h32.defs ?_
      refine ⟨_,rfl,?_,?_,T1.out⟩
      · rw [hbad]
      · rw [hbad];exact H1.out
    · have hgt:decide (((xs.length-s.at_:Nat):Int)<(n:Int))=false:=decide_eq_false ω
      have hok:Bh xs s n=((xs.drop s.at_).take n,⟨s.at_+n,false⟩):=by unfold Bh;rw [if_neg (fun q=>q.elim (fun q=>by rw [hno] at q;cases q) hlt)]
      iterate 3 go_step
      refine wv h3 rfl rfl rfl rfl (.bool false) (by unfold execOp;simp only [h3.ev 1 rfl];exact Af (Ej (by have z:=H0.out.f.cell (i:=0) (by simp);rw [hno] at z;exact z))) fun a25 h33=>mv h33 rfl fun _ h34=>Ak h34 (by rw [Ae (g:=1) (want:=false) (b:=false) rfl (h34.yields (prev:=7) rfl (by simp))];rfl) rfl (by decide) (fr rfl) (ν (n:Int)) (by unfold execOp;simp only [h34.ev 0 rfl];rfl) fun a26 h35=>Ak h35 (by rw [Ae (g:=1) (want:=false) (b:=false) rfl (h35.yields (prev:=7) rfl (by simp))];rfl) rfl (by decide) (fr rfl) (.slice a xs.length c) (by unfold execOp;simp only [h35.ev 2 rfl];exact Af (OJ (H0.out.b.cell (i:=0) (by simp)))) fun a27 h36=>Ak h36 (by rw [Ae (g:=1) (want:=false) (b:=false) rfl (h36.yields (prev:=7) rfl (by simp))];rfl) rfl (by decide) (fr rfl) (ν (xs.length:Int)) (El rfl (h36.ev 9 rfl) _) fun a28 h37=>Ak h37 (by rw [Ae (g:=1) (want:=false) (b:=false) rfl (h37.yields (prev:=7) rfl (by simp))];rfl) rfl (by decide) (fr rfl) (ν (s.at_:Int)) (by unfold execOp;simp only [h37.ev 3 rfl];exact Af (Cy (H0.out.p.cell (i:=0) (by simp)))) fun a29 h38=>Ak h38 (by rw [Ae (g:=1) (want:=false) (b:=false) rfl (h38.yields (prev:=7) rfl (by simp))];rfl) rfl (by decide) (fr rfl) (ν ((xs.length-s.at_:Nat):Int)) (by unfold execOp;simp only [h38.ev 10 rfl,h38.ev 11 rfl];exact Af (FH _ _ _ _ _ ω ω ω _)) fun a30 h39=>Ak h39 (by rw [Ae (g:=1) (want:=false) (b:=false) rfl (h39.yields (prev:=7) rfl (by simp))];rfl) rfl (by decide) (fr rfl) (.bool false) (by unfold execOp;simp only [h39.ev 8 rfl,h39.ev 12 rfl];exact Af (Im _ _ _ _ _ hgt)) fun a31 h40=>wv h40 rfl rfl rfl rfl (.bool false) (BR rfl (h40.ev 7 rfl) (by rw [if_neg (by simp)];exact h40.ev 13 rfl)) fun a32 h41=>?_
      obtain ⟨w1,hw1⟩:∃ x,x=w.setCell ⟨Bs,0,none⟩ (.bool false):=⟨_,rfl⟩
      have H1:Hid (DIn w1 Bb Ba Bs a c xs ⟨s.at_,false⟩):=hid (by rw [hw1];exact H0.out.setS _)
      have T1:Hid (Turns (fun k=>k=Ba∨k=Bs) w w1):=hid (by rw [hw1];exact (GC w Bs 0 _).mono (fun _ q=>.inr q))
      refine Dx h41 (wn rfl) rfl (w':=w1) (by rw [hw1];unfold execOp;simp only [h41.ev 1 rfl,h41.ev 14 rfl];exact FO (Lf (H0.out.f.cell (i:=0) (by simp)) (H0.out.f.frozen 0) _)) fun a33 h42=>h42.sk [5,0,1,2,3] rfl fun h43=>?_
      iterate 5 go_step
      refine wv h43 rfl rfl rfl rfl (.bool false) (by unfold execOp;simp only [h43.ev 1 rfl];exact Af (Ej (by have z:=H1.out.f.cell (i:=0) (by simp);rw [show (⟨s.at_,false⟩:DS).no=false from rfl] at z;exact z))) fun a34 h44=>?_
      iterate 3 go_step
      refine wp_cond (t:=false) (h44.ev 15 rfl) ?_
      simp only [Bool.false_eq_true,if_false]
      refine h44.sk [5,0,1,2,3] rfl fun h45=>?_
      iterate 5 go_step
      refine wv h45 rfl rfl rfl rfl (ν (s.at_:Int)) (by unfold execOp;simp only [h45.ev 3 rfl];exact Af (Cy (H1.out.p.cell (i:=0) (by simp)))) fun a35 h46=>mv h46 rfl fun _ h47=>wv h47 rfl rfl rfl rfl (ν ((s.at_+n:Nat):Int)) (by unfold execOp;simp only [h47.ev 16 rfl,h47.ev 17 rfl];exact Af (Ni _ _ _ _ _ ω ω ω _)) fun a36 h48=>?_
      obtain ⟨w2,hw2⟩:∃ x,x=w1.setCell ⟨Ba,0,none⟩ (ν ((s.at_+n:Nat):Int)):=⟨_,rfl⟩
      have H2:Hid (DIn w2 Bb Ba Bs a c xs ⟨s.at_+n,false⟩):=hid (by rw [hw2];exact H1.out.setA _ ω)
      have T2:Hid (Turns (fun k=>k=Ba∨k=Bs) w w2):=hid (by rw [hw2];exact T1.out.trans ((GC w1 Ba 0 _).mono (fun _ q=>.inl q)))
      refine Dx h48 (wn rfl) rfl (w':=w2) (by rw [hw2];unfold execOp;simp only [h48.ev 3 rfl,h48.ev 18 rfl];exact FO (Ur (H1.out.p.cell (i:=0) (by simp)) (H1.out.p.frozen 0) _)) fun a37 h49=>h49.sk [5,0,1,2,3] rfl fun h50=>?_
      iterate 5 go_step
      refine wv h50 rfl rfl rfl rfl (.slice a xs.length c) (by unfold execOp;simp only [h50.ev 2 rfl];exact Af (OJ (H2.out.b.cell (i:=0) (by simp)))) fun a38 h51=>wv h51 rfl rfl rfl rfl (ν ((s.at_+n:Nat):Int)) (by unfold execOp;simp only [h51.ev 3 rfl];exact Af (Cy (H2.out.p.cell (i:=0) (by simp)))) fun a39 h52=>mv h52 rfl fun _ h53=>wv h53 rfl rfl rfl rfl (ν (s.at_:Int)) (by unfold execOp;simp only [h53.ev 20 rfl,h53.ev 21 rfl];exact Af (FH _ _ _ _ _ ω ω ω _)) fun a40 h54=>wv h54 rfl rfl rfl rfl (ν ((s.at_+n:Nat):Int)) (by unfold execOp;simp only [h54.ev 3 rfl];exact Af (Cy (H2.out.p.cell (i:=0) (by simp)))) fun a41 h55=>?_
      obtain ⟨dp,hsl,hrow⟩:=Abu (HR.out w2 T2.out) s.at_ (s.at_+n) ω ω
      rw [show s.at_+n-s.at_=n by omega] at hsl hrow
      have hyl:((xs.drop s.at_).take n).length=n:=by simp;omega
      refine wv h55 rfl rfl rfl rfl (.slice dp n (c-s.at_)) (by unfold execOp;simp only [Option.map_some,Option.map_none,h55.ev 19 rfl,h55.ev 22 rfl,h55.ev 23 rfl];exact Af (hsl _)) fun a42 h56=>wv h56 rfl rfl rfl rfl (Am ((xs.drop s.at_).take n)) (by unfold execOp;simp only [h56.ev 24 rfl];exact Af (by have z:=Gy hrow;rw [hyl] at z;exact z)) fun a43 h57=>h57.sk [25,24,23,22,21,20,19,0,1,2,3] rfl fun h58=>mv h58 rfl fun _ h59=>h59.sk [5,0,1,2,3] rfl fun h60=>?_
      iterate 4 go_step
      refine bodyPost_ret (AL rfl (h60.known (5,Am ((xs.drop s.at_).take n)) (by simp))) h60.defs ?_
      refine ⟨_,rfl,?_,?_,T2.out⟩
      · rw [hok]
      · rw [hok];exact H2.out
def MN (Bs Bb Ba:Nat):Value:=.func (.func 108) #[] #[π Bs,π Bb,π Ba]
theorem Sy {w:World} {Bb Ba Bs Bt:Nat} {a:Ω} {c:Nat} {xs:Λ} {s:DS} (h0:DIn w Bb Ba Bs a c xs s) (ht:Blk w Bt 170 [MN Bs Bb Ba]) (hR:∀ W,Turns (fun k=>k=Ba∨k=Bs) w W→RowB W a c xs) (hl:xs.length≤1000000) (n:Nat) (hn:n≤8) :
    Calls prog 109 #[ν (n:Int),π Bt] w fun e w'=>∃ v,e=.returned v∧v=ν ((Bg xs s n).1:Int)∧DIn w' Bb Ba Bs a c xs (Bg xs s n).2∧Turns (fun k=>k=Ba∨k=Bs) w w':=by
  have HT:=hid (Oa h0 hR hl n ω)
  have ct:=ht.cell (i:=0) (by simp)
  simp only [List.getElem_cons_zero] at ct
  unfold MN at ct
  have hyl:(Bh xs s n).1.length≤1000000:=by
    unfold Bh;split
    · exact Nat.zero_le _
    · show ((xs.drop s.at_).take n).length≤_;rw [List.length_take];omega
  unfold Bg
  obtain ⟨ys,hys⟩:∃ ys,ys=(Bh xs s n).1:=⟨_,rfl⟩
  obtain ⟨s2,hs2⟩:∃ s2,s2=(Bh xs s n).2:=⟨_,rfl⟩
  rw [← hys,← hs2] at HT ⊢
  rw [← hys] at hyl
  clear h0 ht hR hys hs2
  go_enter func109,ntmps109
  iterate 3 go_step
  refine Bk (N:=16) (l:=[(0,ν (n:Int)),(1,π Bt)]) ⟨rfl,(by intro x hx;simp only [List.mem_cons,List.not_mem_nil,or_false] at hx;rcases hx with rfl | rfl<;>rfl),rfl⟩ fun a2 h1=>mv h1 rfl fun _ h3=>?_
  iterate 5 go_step
  refine wv h3 rfl rfl rfl rfl (.func (.func 108) #[] #[π Bs,π Bb,π Ba]) (by unfold execOp;simp only [h3.ev 1 rfl];exact Af (OH ct)) fun a6 h5=>mv h5 rfl fun _ h7=>Fe h7 (wn rfl) rfl (by decide) (fr rfl) (fun args=>cF func108 (args:=args) (w:=_)) rfl #[ν (n:Int)] #[π Bs,π Bb,π Ba] (h7.ev 7 rfl) (by simp only [List.map_toArray,List.map_cons,List.map_nil,h7.ev 8 rfl]) (R:=fun v w'=>v=Am ys∧DIn w' Bb Ba Bs a c xs s2∧Turns (fun k=>k=Ba∨k=Bs) w w') HT.out fun a1 v1 w1 r1 h9=>?_
  obtain ⟨rfl,q1,q2⟩:=r1
  have HD:=hid q1;have TN:=hid q2;clear q1 q2
  obtain ⟨yc,w2,hcv,hrow,b2⟩:=Gm w1 ys hyl
  refine wv h9 rfl rfl rfl rfl (.slice (some ⟨w1.heap.size,0,none⟩) ys.length yc) (by unfold execOp;simp only [h9.ev 9 rfl];exact Af hcv) fun a3 h2=>?_
  have HD2:=hid (HD.out.mono b2);have TN2:=hid (TN.out.trans (Turns.of_below b2));have HRW:=hid hrow;clear b2 hrow hcv
  refine mv h2 rfl fun _ h4=>BI h4 (wn rfl) rfl (by decide) (fr rfl) (fun args=>cF func74 (args:=args) (w:=_)) rfl #[.slice (some ⟨w1.heap.size,0,none⟩) ys.length yc,ν 0,ν (n:Int)] (by simp only [List.map_toArray,List.map_cons,List.map_nil,h4.ev 10 rfl,h4.ev 11 rfl];rfl) (R:=fun v w'=>v=KN (AC ys 0 n)∧w2=w') ((DP (some ⟨w1.heap.size,0,none⟩) yc ys 0 (n:Int) w2 HRW.out ω).mono fun e w' q=>⟨_,q.1,rfl,q.2⟩) fun a4 v3 w3 r3 h6=>?_
  obtain ⟨rfl,rfl⟩:=r3
  refine mv h6 rfl fun _ h8=>wv h8 rfl rfl rfl rfl (ν (((AC ys 0 n).getD 0:Nat):Int)) (by unfold execOp;simp only [h8.ev 6 rfl];exact rfl) fun a5 h10=>wv h10 rfl rfl rfl rfl (.bool (AC ys 0 n).isSome) (by unfold execOp;simp only [h10.ev 6 rfl];exact rfl) fun a7 h11=>mv h11 rfl fun _ h12=>mv h12 rfl fun _ h13=>h13.sk [4,3,0,1] rfl fun h14=>?_
  iterate 5 go_step
  refine mv h14 rfl fun _ h15=>h15.sk [15,4,0,1] rfl fun h16=>mv h16 rfl fun _ h17=>h17.sk [3,4,0,1] rfl fun h18=>?_
  iterate 4 go_step
  refine bodyPost_ret (AL rfl (h18.known (3,ν (((AC ys 0 n).getD 0:Nat):Int)) (by simp))) h18.defs ?_
  exact ⟨_,rfl,rfl,HD2.out,TN2.out⟩
end
section
theorem ZP (x y:Operand) (v u:Int) (w:World) {b:Bool} (h:(v == u)=b):(do eqGuard .eql 5 x y (.int .u8 v) (.int .u8 u);binOp .eql 5 (.int .u8 v) (.int .u8 u):Sem Value).run prog w=.ok (.bool b) w:=by
  have u3:=υ5
  have a3:=Tryz.isAgg5
  have z3:=Tryz.sizeOf5
  subst h
  go_simp
theorem Agz (x y:Operand) (v u:Int) (w:World) {b:Bool} (h:decide (v<u)=b):(do eqGuard .lss 5 x y (.int .u8 v) (.int .u8 u);binOp .lss 5 (.int .u8 v) (.int .u8 u):Sem Value).run prog w=.ok (.bool b) w:=by
  have u3:=υ5
  have a3:=Tryz.isAgg5
  have z3:=Tryz.sizeOf5
  subst h
  go_simp
theorem ZD (l:Λ) (i:Nat) (x:UInt8) (h:l[i]? = some x):∃ hi:i<(bsB l).size,(bsB l)[i]=x:=by
  obtain ⟨h1,h2⟩:=List.getElem?_eq_some_iff.1 h
  exact ⟨by rw [CJ];exact h1,by simpa [bsB,ByteArray.getElem_eq_getElem_data] using h2⟩
theorem Sl (l:Λ) (i:Nat) (x:UInt8) (h:l[i]? = some x) (w:World):(Instr.index 9 (Am l) (ν (i:Int))).run prog w=.ok (Ad x) w:=by
  have u9:=υ9
  obtain ⟨h1,h2⟩:=ZD l i x h
  have h3:=CJ l
  have d0:0≤(i:Int):=ω
  have d1:(i:Int)<((bsB l).size:Int):=ω
  unfold Am
  go_simp
  rw [if_pos ω]
  rfl
theorem TR (s:Λ) (m n:Nat):(bsB s).extract m n=bsB ((s.take n).drop m):=by
  apply ByteArray.ext
  apply Array.toList_inj.1
  simp [bsB,ByteArray.data_extract]
  rw [List.drop_take]
theorem Ahd (s:Λ) (n:Nat) (hn:n≤s.length) (w:World):(Instr.sliceAt 9 (Am s) none (some (ν (n:Int))) none).run prog w=.ok (Am (s.take n)) w:=by
  have u9:=υ9
  have hsz:=CJ s
  have e:=TR s 0 n
  rw [List.drop_zero] at e
  have d0:0≤(n:Int):=ω
  have d1:(n:Int)≤((bsB s).size:Int):=ω
  have d2:n≤(bsB s).size:=ω
  unfold Am
  go_simp
theorem Af1 (s:Λ) (n:Nat) (hn:n≤s.length) (w:World):(Instr.sliceAt 9 (Am s) (some (ν (n:Int))) none none).run prog w=.ok (Am (s.drop n)) w:=by
  have u9:=υ9
  have hsz:=CJ s
  have e:=TR s n s.length
  rw [List.take_length] at e
  have d0:0≤(n:Int):=ω
  have d1:(n:Int)≤((bsB s).size:Int):=ω
  have d2:n≤(bsB s).size:=ω
  unfold Am
  go_simp
theorem Ws (l:Λ) (hl:l.length≤1000000) (w:World):Calls prog 129 #[Am l,Ad 0] w fun e w'=>∃ v,e=.returned v∧∃ k,k≤l.length∧v=Am (l.take k)∧(∀ i (hi:i<l.length),k≤i→l[i]=0)∧(k=0∨∃ h:k-1<l.length,l[k-1]≠0)∧w'=w:=by
  go_enter func129,ntmps129
  iterate 3 go_step
  refine Bk (N:=23) (l:=[(0,Am l),(1,Ad 0)]) ⟨rfl,(by intro x hx;simp only [List.mem_cons,List.not_mem_nil,or_false] at hx;rcases hx with rfl | rfl<;>rfl),rfl⟩ fun a2 h1=>wv h1 rfl rfl rfl rfl (Am []) (by unfold execOp;rfl) fun a4 h3=>?_
  iterate 5 go_step
  refine h3.sk [0,4,1] rfl fun h5=>?_
  refine wp_loop (I:=fun a' w'=>∃ k:Nat,k≤l.length∧Kn 23 [(0,Am (l.take k)),(4,Am []),(1,Ad 0)] a'∧(∀ i (hi:i<l.length),k≤i→l[i]=0)∧w'=w) (μ:=fun a' _=>match a'.eval (.tmp 0) with | .string s=>s.size | _=>0) ⟨l.length,Nat.le_refl _,by rw [List.take_length];exact h5,fun i hi h2=>absurd h2 ω,rfl⟩ ?_
  clear h5
  rintro aL wL ⟨k,hk,hK,hz,rfl⟩
  have hcl:(l.take k).length=k:=by rw [List.length_take];omega
  by_cases hp:0<k
  · have hpos:decide ((0:Int)<(k:Int))=true:=decide_eq_true ω
    obtain ⟨x,hx⟩:∃ x,x=l[k-1]:=⟨_,rfl⟩
    have hix:(l.take k)[(k-1:Nat)]? = some x:=by rw [List.getElem?_take,if_pos ω,List.getElem?_eq_getElem ω,hx]
    by_cases hx0:x=0
    · have heq:((x.toNat:Int) == ((0:UInt8).toNat:Int))=true:=by rw [hx0];rfl
      have hnx:Am (l.take (k-1))=Am ((l.take k).take (k-1)):=by rw [List.take_take,Nat.min_eq_left ω]
      iterate 4 go_step
      refine mv hK rfl fun _ h6=>wv h6 rfl rfl rfl rfl (ν (k:Int)) (by rw [Cq rfl (h6.ev 5 rfl) _];rw [hcl]) fun a9 h8=>wv h8 rfl rfl rfl rfl (.bool true) (by unfold execOp;simp only [h8.ev 6 rfl];exact Af (Im _ _ _ _ _ hpos)) fun a1 h4=>mv h4 rfl fun _ h7=>Ak h7 (by rw [Ae (g:=3) (want:=true) (b:=true) rfl (h7.yields (prev:=8) rfl (by simp))];rfl) rfl (by decide) (fr rfl) (Am (l.take k)) (by unfold execOp;simp only [h7.ev 0 rfl];rfl) fun a3 h9=>Ak h9 (by rw [Ae (g:=3) (want:=true) (b:=true) rfl (h9.yields (prev:=8) rfl (by simp))];rfl) rfl (by decide) (fr rfl) (Am (l.take k)) (by unfold execOp;simp only [h9.ev 0 rfl];rfl) fun a5 h10=>Ak h10 (by rw [Ae (g:=3) (want:=true) (b:=true) rfl (h10.yields (prev:=8) rfl (by simp))];rfl) rfl (by decide) (fr rfl) (ν (k:Int)) (by rw [Cq rfl (h10.ev 10 rfl) _];rw [hcl]) fun a6 h11=>Ak h11 (by rw [Ae (g:=3) (want:=true) (b:=true) rfl (h11.yields (prev:=8) rfl (by simp))];rfl) rfl (by decide) (fr rfl) (ν ((k-1:Nat):Int)) (by unfold execOp;simp only [h11.ev 11 rfl];exact Af (FH _ _ _ _ _ ω ω ω _)) fun a7 h12=>Ak h12 (by rw [Ae (g:=3) (want:=true) (b:=true) rfl (h12.yields (prev:=8) rfl (by simp))];rfl) rfl (by decide) (fr rfl) (Ad x) (by unfold execOp;simp only [h12.ev 9 rfl,h12.ev 12 rfl];exact Af (Sl _ _ _ hix _)) fun a8 h13=>Ak h13 (by rw [Ae (g:=3) (want:=true) (b:=true) rfl (h13.yields (prev:=8) rfl (by simp))];rfl) rfl (by decide) (fr rfl) (Ad 0) (by unfold execOp;simp only [h13.ev 1 rfl];rfl) fun a10 h14=>?_
      refine Ak h14 (by rw [Ae (g:=3) (want:=true) (b:=true) rfl (h14.yields (prev:=8) rfl (by simp))];rfl) rfl (by decide) (fr rfl) (.bool true) (by unfold execOp;simp only [h14.ev 13 rfl,h14.ev 14 rfl];exact Af (ZP _ _ _ _ _ heq)) fun a11 h15=>wv h15 rfl rfl rfl rfl (.bool true) (BR rfl (h15.ev 8 rfl) (by rw [if_pos rfl];exact h15.ev 15 rfl)) fun a12 h16=>h16.sk [16,0,4,1] rfl fun h17=>?_
      iterate 3 go_step
      refine wp_cond (t:=true) (h17.ev 16 rfl) ?_
      simp only [if_true]
      refine h17.sk [0,4,1] rfl fun h18=>?_
      iterate 5 go_step
      refine mv h18 rfl fun _ h19=>mv h19 rfl fun _ h20=>wv h20 rfl rfl rfl rfl (ν (k:Int)) (by rw [Cq rfl (h20.ev 18 rfl) _];rw [hcl]) fun a13 h21=>bv h21 rfl (z:=ν ((k-1:Nat):Int)) (FH _ _ _ _ _ ω ω ω) fun a14 h22=>wv h22 rfl rfl rfl rfl (Am (l.take (k-1))) (by unfold execOp;simp only [Option.map_some,Option.map_none,h22.ev 17 rfl,h22.ev 20 rfl];exact Af (by rw [hnx];exact Ahd (l.take k) (k-1) (by rw [hcl];omega) _)) fun a15 h23=>h23.sk [21,20,19,18,17,4,1] rfl fun h24=>mv h24 rfl fun _ h25=>h25.sk [0,4,1] rfl fun h26=>?_
      iterate 2 go_step
      refine ⟨⟨k-1,ω,h26.subs rfl,fun i hi h2=>?_,rfl⟩,?_⟩
      · by_cases e:i=k-1
        · subst e;rw [← hx,hx0]
        · exact hz i hi ω
      · rw [h26.ev 0 rfl,hK.ev 0 rfl];show (bsB _).size<(bsB _).size;rw [CJ,CJ,hcl];rw [List.length_take];omega
    · have heq:((x.toNat:Int) == ((0:UInt8).toNat:Int))=false:=by simp;intro q;exact hx0 (UInt8.toNat_inj.1 (by simpa using q))
      have hend:k=0∨∃ h:k-1<l.length,l[k-1]≠0:=.inr ⟨ω,by rw [← hx];exact hx0⟩
      iterate 4 go_step
      refine mv hK rfl fun _ h27=>wv h27 rfl rfl rfl rfl (ν (k:Int)) (by rw [Cq rfl (h27.ev 5 rfl) _];rw [hcl]) fun a16 h28=>wv h28 rfl rfl rfl rfl (.bool true) (by unfold execOp;simp only [h28.ev 6 rfl];exact Af (Im _ _ _ _ _ hpos)) fun a17 h29=>mv h29 rfl fun _ h30=>Ak h30 (by rw [Ae (g:=3) (want:=true) (b:=true) rfl (h30.yields (prev:=8) rfl (by simp))];rfl) rfl (by decide) (fr rfl) (Am (l.take k)) (by unfold execOp;simp only [h30.ev 0 rfl];rfl) fun a18 h31=>Ak h31 (by rw [Ae (g:=3) (want:=true) (b:=true) rfl (h31.yields (prev:=8) rfl (by simp))];rfl) rfl (by decide) (fr rfl) (Am (l.take k)) (by unfold execOp;simp only [h31.ev 0 rfl];rfl) fun a19 h32=>Ak h32 (by rw [Ae (g:=3) (want:=true) (b:=true) rfl (h32.yields (prev:=8) rfl (by simp))];rfl) rfl (by decide) (fr rfl) (ν (k:Int)) (by rw [Cq rfl (h32.ev 10 rfl) _];rw [hcl]) fun a20 h33=>Ak h33 (by rw [Ae (g:=3) (want:=true) (b:=true) rfl (h33.yields (prev:=8) rfl (by simp))];rfl) rfl (by decide) (fr rfl) (ν ((k-1:Nat):Int)) (by unfold execOp;simp only [h33.ev 11 rfl];exact Af (FH _ _ _ _ _ ω ω ω _)) fun a21 h34=>Ak h34 (by rw [Ae (g:=3) (want:=true) (b:=true) rfl (h34.yields (prev:=8) rfl (by simp))];rfl) rfl (by decide) (fr rfl) (Ad x) (by unfold execOp;simp only [h34.ev 9 rfl,h34.ev 12 rfl];exact Af (Sl _ _ _ hix _)) fun a22 h35=>Ak h35 (by rw [Ae (g:=3) (want:=true) (b:=true) rfl (h35.yields (prev:=8) rfl (by simp))];rfl) rfl (by decide) (fr rfl) (Ad 0) (by unfold execOp;simp only [h35.ev 1 rfl];rfl) fun a23 h36=>?_
      refine Ak h36 (by rw [Ae (g:=3) (want:=true) (b:=true) rfl (h36.yields (prev:=8) rfl (by simp))];rfl) rfl (by decide) (fr rfl) (.bool false) (by unfold execOp;simp only [h36.ev 13 rfl,h36.ev 14 rfl];exact Af (ZP _ _ _ _ _ heq)) fun a24 h37=>wv h37 rfl rfl rfl rfl (.bool false) (BR rfl (h37.ev 8 rfl) (by rw [if_pos rfl];exact h37.ev 15 rfl)) fun a25 h38=>h38.sk [16,0,4,1] rfl fun h39=>?_
      iterate 3 go_step
      refine wp_cond (t:=false) (h39.ev 16 rfl) ?_
      simp only [Bool.false_eq_true,if_false]
      refine h39.sk [0,4,1] rfl fun h40=>?_
      iterate 7 go_step
      refine mv h40 rfl fun _ h41=>h41.sk [22,0,1] rfl fun h42=>mv h42 rfl fun _ h43=>h43.sk [4,0,1] rfl fun h44=>?_
      iterate 4 go_step
      refine bodyPost_ret (AL rfl (h44.known (4,Am (l.take k)) (by simp))) h44.defs ?_
      exact ⟨_,rfl,k,hk,rfl,hz,hend,rfl⟩
  · have hpos:decide ((0:Int)<(k:Int))=false:=decide_eq_false ω
    have hend:k=0∨∃ h:k-1<l.length,l[k-1]≠0:=.inl ω
    iterate 4 go_step
    refine mv hK rfl fun _ h45=>wv h45 rfl rfl rfl rfl (ν (k:Int)) (by rw [Cq rfl (h45.ev 5 rfl) _];rw [hcl]) fun a26 h46=>wv h46 rfl rfl rfl rfl (.bool false) (by unfold execOp;simp only [h46.ev 6 rfl];exact Af (Im _ _ _ _ _ hpos)) fun a27 h47=>mv h47 rfl fun _ h48=>Bf h48 (by rw [Ae (g:=3) (want:=true) (b:=false) rfl (h48.yields (prev:=8) rfl (by simp))];rfl) rfl (by decide) (fr rfl) fun a28 h49=>Bf h49 (by rw [Ae (g:=3) (want:=true) (b:=false) rfl (h49.yields (prev:=8) rfl (by simp))];rfl) rfl (by decide) (fr rfl) fun a29 h50=>Bf h50 (by rw [Ae (g:=3) (want:=true) (b:=false) rfl (h50.yields (prev:=8) rfl (by simp))];rfl) rfl (by decide) (fr rfl) fun a30 h51=>Bf h51 (by rw [Ae (g:=3) (want:=true) (b:=false) rfl (h51.yields (prev:=8) rfl (by simp))];rfl) rfl (by decide) (fr rfl) fun a31 h52=>Bf h52 (by rw [Ae (g:=3) (want:=true) (b:=false) rfl (h52.yields (prev:=8) rfl (by simp))];rfl) rfl (by decide) (fr rfl) fun a32 h53=>Bf h53 (by rw [Ae (g:=3) (want:=true) (b:=false) rfl (h53.yields (prev:=8) rfl (by simp))];rfl) rfl (by decide) (fr rfl) fun a33 h54=>?_
    refine Bf h54 (by rw [Ae (g:=3) (want:=true) (b:=false) rfl (h54.yields (prev:=8) rfl (by simp))];rfl) rfl (by decide) (fr rfl) fun a34 h55=>wv h55 rfl rfl rfl rfl (.bool false) (BR rfl (h55.ev 8 rfl) rfl) fun a35 h56=>h56.sk [16,0,4,1] rfl fun h57=>?_
    iterate 3 go_step
    refine wp_cond (t:=false) (h57.ev 16 rfl) ?_
    simp only [Bool.false_eq_true,if_false]
    refine h57.sk [0,4,1] rfl fun h58=>?_
    iterate 7 go_step
    refine mv h58 rfl fun _ h59=>h59.sk [22,0,1] rfl fun h60=>mv h60 rfl fun _ h61=>h61.sk [4,0,1] rfl fun h62=>?_
    iterate 4 go_step
    refine bodyPost_ret (AL rfl (h62.known (4,Am (l.take k)) (by simp))) h62.defs ?_
    exact ⟨_,rfl,k,hk,rfl,hz,hend,rfl⟩
theorem Wr (l:Λ) (hl:l.length≤1000000) (w:World):Calls prog 128 #[Am l,Ad 0] w fun e w'=>∃ v,e=.returned v∧∃ k,k≤l.length∧v=Am (l.drop k)∧(∀ i (hi:i<l.length),i<k→l[i]=0)∧(k=l.length∨∃ h:k<l.length,l[k]≠0)∧w'=w:=by
  go_enter func128,ntmps128
  iterate 3 go_step
  refine Bk (N:=17) (l:=[(0,Am l),(1,Ad 0)]) ⟨rfl,(by intro x hx;simp only [List.mem_cons,List.not_mem_nil,or_false] at hx;rcases hx with rfl | rfl<;>rfl),rfl⟩ fun a2 h1=>wv h1 rfl rfl rfl rfl (Am []) (by unfold execOp;rfl) fun a4 h3=>?_
  iterate 5 go_step
  refine h3.sk [0,4,1] rfl fun h5=>?_
  refine wp_loop (I:=fun a' w'=>∃ k:Nat,k≤l.length∧Kn 17 [(0,Am (l.drop k)),(4,Am []),(1,Ad 0)] a'∧(∀ i (hi:i<l.length),i<k→l[i]=0)∧w'=w) (μ:=fun a' _=>match a'.eval (.tmp 0) with | .string s=>s.size | _=>0) ⟨0,Nat.zero_le _,by rw [List.drop_zero];exact h5,fun i hi h2=>absurd h2 ω,rfl⟩ ?_
  clear h5
  rintro aL wL ⟨k,hk,hK,hz,rfl⟩
  have hcl:(l.drop k).length=(l.length-k:Nat):=by rw [List.length_drop]
  by_cases hp:k<l.length
  · have hpos:decide ((0:Int)<((l.length-k:Nat):Int))=true:=decide_eq_true ω
    obtain ⟨x,hx⟩:∃ x,x=l[k]:=⟨_,rfl⟩
    have hix:(l.drop k)[(0:Nat)]? = some x:=by rw [List.getElem?_drop,Nat.add_zero,List.getElem?_eq_getElem hp,hx]
    by_cases hx0:x=0
    · have heq:((x.toNat:Int) == ((0:UInt8).toNat:Int))=true:=by rw [hx0];rfl
      have hnx:Am (l.drop (k+1))=Am ((l.drop k).drop 1):=by rw [List.drop_drop]
      iterate 4 go_step
      refine mv hK rfl fun _ h6=>wv h6 rfl rfl rfl rfl (ν ((l.length-k:Nat):Int)) (by rw [Cq rfl (h6.ev 5 rfl) _];rw [hcl]) fun a9 h8=>wv h8 rfl rfl rfl rfl (.bool true) (by unfold execOp;simp only [h8.ev 6 rfl];exact Af (Im _ _ _ _ _ hpos)) fun a1 h4=>mv h4 rfl fun _ h7=>Ak h7 (by rw [Ae (g:=3) (want:=true) (b:=true) rfl (h7.yields (prev:=8) rfl (by simp))];rfl) rfl (by decide) (fr rfl) (Am (l.drop k)) (by unfold execOp;simp only [h7.ev 0 rfl];rfl) fun a3 h9=>Ak h9 (by rw [Ae (g:=3) (want:=true) (b:=true) rfl (h9.yields (prev:=8) rfl (by simp))];rfl) rfl (by decide) (fr rfl) (Ad x) (by unfold execOp;simp only [h9.ev 9 rfl];exact Af (Sl _ _ _ hix _)) fun a5 h10=>Ak h10 (by rw [Ae (g:=3) (want:=true) (b:=true) rfl (h10.yields (prev:=8) rfl (by simp))];rfl) rfl (by decide) (fr rfl) (Ad 0) (by unfold execOp;simp only [h10.ev 1 rfl];rfl) fun a6 h11=>Ak h11 (by rw [Ae (g:=3) (want:=true) (b:=true) rfl (h11.yields (prev:=8) rfl (by simp))];rfl) rfl (by decide) (fr rfl) (.bool true) (by unfold execOp;simp only [h11.ev 10 rfl,h11.ev 11 rfl];exact Af (ZP _ _ _ _ _ heq)) fun a7 h12=>wv h12 rfl rfl rfl rfl (.bool true) (BR rfl (h12.ev 8 rfl) (by rw [if_pos rfl];exact h12.ev 12 rfl)) fun a8 h13=>h13.sk [13,0,4,1] rfl fun h14=>?_
      iterate 3 go_step
      refine wp_cond (t:=true) (h14.ev 13 rfl) ?_
      simp only [if_true]
      refine h14.sk [0,4,1] rfl fun h15=>?_
      iterate 5 go_step
      refine mv h15 rfl fun _ h16=>wv h16 rfl rfl rfl rfl (Am (l.drop (k+1))) (by unfold execOp;simp only [Option.map_some,Option.map_none,h16.ev 14 rfl];exact Af (by rw [hnx];exact Af1 (l.drop k) 1 (by rw [hcl];omega) _)) fun a10 h17=>h17.sk [15,14,4,1] rfl fun h18=>mv h18 rfl fun _ h19=>h19.sk [0,4,1] rfl fun h20=>?_
      iterate 2 go_step
      refine ⟨⟨k+1,ω,h20.subs rfl,fun i hi h2=>?_,rfl⟩,?_⟩
      · by_cases e:i=k
        · subst e;rw [← hx,hx0]
        · exact hz i hi ω
      · rw [h20.ev 0 rfl,hK.ev 0 rfl];show (bsB _).size<(bsB _).size;rw [CJ,CJ,hcl];rw [List.length_drop];omega
    · have heq:((x.toNat:Int) == ((0:UInt8).toNat:Int))=false:=by simp;intro q;exact hx0 (UInt8.toNat_inj.1 (by simpa using q))
      have hend:k=l.length∨∃ h:k<l.length,l[k]≠0:=.inr ⟨ω,by rw [← hx];exact hx0⟩
      iterate 4 go_step
      refine mv hK rfl fun _ h21=>wv h21 rfl rfl rfl rfl (ν ((l.length-k:Nat):Int)) (by rw [Cq rfl (h21.ev 5 rfl) _];rw [hcl]) fun a11 h22=>wv h22 rfl rfl rfl rfl (.bool true) (by unfold execOp;simp only [h22.ev 6 rfl];exact Af (Im _ _ _ _ _ hpos)) fun a12 h23=>mv h23 rfl fun _ h24=>Ak h24 (by rw [Ae (g:=3) (want:=true) (b:=true) rfl (h24.yields (prev:=8) rfl (by simp))];rfl) rfl (by decide) (fr rfl) (Am (l.drop k)) (by unfold execOp;simp only [h24.ev 0 rfl];rfl) fun a13 h25=>Ak h25 (by rw [Ae (g:=3) (want:=true) (b:=true) rfl (h25.yields (prev:=8) rfl (by simp))];rfl) rfl (by decide) (fr rfl) (Ad x) (by unfold execOp;simp only [h25.ev 9 rfl];exact Af (Sl _ _ _ hix _)) fun a14 h26=>Ak h26 (by rw [Ae (g:=3) (want:=true) (b:=true) rfl (h26.yields (prev:=8) rfl (by simp))];rfl) rfl (by decide) (fr rfl) (Ad 0) (by unfold execOp;simp only [h26.ev 1 rfl];rfl) fun a15 h27=>Ak h27 (by rw [Ae (g:=3) (want:=true) (b:=true) rfl (h27.yields (prev:=8) rfl (by simp))];rfl) rfl (by decide) (fr rfl) (.bool false) (by unfold execOp;simp only [h27.ev 10 rfl,h27.ev 11 rfl];exact Af (ZP _ _ _ _ _ heq)) fun a16 h28=>wv h28 rfl rfl rfl rfl (.bool false) (BR rfl (h28.ev 8 rfl) (by rw [if_pos rfl];exact h28.ev 12 rfl)) fun a17 h29=>h29.sk [13,0,4,1] rfl fun h30=>?_
      iterate 3 go_step
      refine wp_cond (t:=false) (h30.ev 13 rfl) ?_
      simp only [Bool.false_eq_true,if_false]
      refine h30.sk [0,4,1] rfl fun h31=>?_
      iterate 7 go_step
      refine mv h31 rfl fun _ h32=>h32.sk [16,0,1] rfl fun h33=>mv h33 rfl fun _ h34=>h34.sk [4,0,1] rfl fun h35=>?_
      iterate 4 go_step
      refine bodyPost_ret (AL rfl (h35.known (4,Am (l.drop k)) (by simp))) h35.defs ?_
      exact ⟨_,rfl,k,hk,rfl,hz,hend,rfl⟩
  · have hpos:decide ((0:Int)<((l.length-k:Nat):Int))=false:=decide_eq_false ω
    have hend:k=l.length∨∃ h:k<l.length,l[k]≠0:=.inl ω
    iterate 4 go_step
    refine mv hK rfl fun _ h36=>wv h36 rfl rfl rfl rfl (ν ((l.length-k:Nat):Int)) (by rw [Cq rfl (h36.ev 5 rfl) _];rw [hcl]) fun a18 h37=>wv h37 rfl rfl rfl rfl (.bool false) (by unfold execOp;simp only [h37.ev 6 rfl];exact Af (Im _ _ _ _ _ hpos)) fun a19 h38=>mv h38 rfl fun _ h39=>Bf h39 (by rw [Ae (g:=3) (want:=true) (b:=false) rfl (h39.yields (prev:=8) rfl (by simp))];rfl) rfl (by decide) (fr rfl) fun a20 h40=>Bf h40 (by rw [Ae (g:=3) (want:=true) (b:=false) rfl (h40.yields (prev:=8) rfl (by simp))];rfl) rfl (by decide) (fr rfl) fun a21 h41=>Bf h41 (by rw [Ae (g:=3) (want:=true) (b:=false) rfl (h41.yields (prev:=8) rfl (by simp))];rfl) rfl (by decide) (fr rfl) fun a22 h42=>Bf h42 (by rw [Ae (g:=3) (want:=true) (b:=false) rfl (h42.yields (prev:=8) rfl (by simp))];rfl) rfl (by decide) (fr rfl) fun a23 h43=>wv h43 rfl rfl rfl rfl (.bool false) (BR rfl (h43.ev 8 rfl) rfl) fun a24 h44=>h44.sk [13,0,4,1] rfl fun h45=>?_
    iterate 3 go_step
    refine wp_cond (t:=false) (h45.ev 13 rfl) ?_
    simp only [Bool.false_eq_true,if_false]
    refine h45.sk [0,4,1] rfl fun h46=>?_
    iterate 7 go_step
    refine mv h46 rfl fun _ h47=>h47.sk [16,0,1] rfl fun h48=>mv h48 rfl fun _ h49=>h49.sk [4,0,1] rfl fun h50=>?_
    iterate 4 go_step
    refine bodyPost_ret (AL rfl (h50.known (4,Am (l.drop k)) (by simp))) h50.defs ?_
    exact ⟨_,rfl,k,hk,rfl,hz,hend,rfl⟩
theorem Ac3 (x y:Operand) (s t:Λ) (w:World) {b:Bool} (h:decide (s=t)=b):(do eqGuard .eql 9 x y (Am s) (Am t);binOp .eql 9 (Am s) (Am t):Sem Value).run prog w=.ok (.bool b) w:=by
  have u3:=υ9
  have a3:=Tryz.isAgg9
  have z3:=Tryz.sizeOf9
  have e:((bsB s).toList == (bsB t).toList)=b:=by
    rw [ByteArray.toList_eq,ByteArray.toList_eq,GS,GS,← h]
    by_cases q:s=t<;>simp [q]
  unfold Am
  go_simp
theorem ZN (x y:Operand) (v u:Int) (w:World) {b:Bool} (h:(v == u)=b):(do eqGuard .eql 3 x y (ν v) (ν u);binOp .eql 3 (ν v) (ν u):Sem Value).run prog w=.ok (.bool b) w:=by
  have u3:=υ3
  have a3:=Tryz.isAgg3
  have z3:=Tryz.sizeOf3
  subst h
  go_simp
theorem Wt {l:Λ} {k j:Nat} (hk:k≤l.length) (hj:j≤(l.take k).length) (hz:∀ i (hi:i<l.length),k≤i→l[i]=0) (hend:k=0∨∃ h:k-1<l.length,l[k-1]≠0)
    (hz2:∀ i (hi:i<(l.take k).length),i<j→(l.take k)[i]=0) (hend2:j=(l.take k).length∨∃ h:j<(l.take k).length,(l.take k)[j]≠0):(l.take k).drop j=[]↔∀ x∈l,x=0:=by
  have hlk:(l.take k).length=k:=by rw [List.length_take];omega
  constructor
  · intro h x hx
    have hjk:j=k:=by
      have:=congrArg List.length h
      rw [List.length_drop,hlk] at this
      simp at this;omega
    obtain ⟨i,hi,rfl⟩:=List.getElem_of_mem hx
    by_cases hik:i<k
    · have:=hz2 i ω ω
      rwa [List.getElem_take] at this
    · exact hz i hi ω
  · intro h
    have hk0:k=0:=by
      rcases hend with h1 | ⟨h1,h2⟩
      · exact h1
      · exact absurd (h _ (List.getElem_mem h1)) h2
    subst hk0
    simp
theorem Jw (l:Λ) (hl:l.length≤1000000) (w:World):Calls prog 111 #[Am l,Am [0]] w fun e w'=>∃ v,e=.returned v∧∃ r:Λ,v=Am r∧(r=[]↔∀ x∈l,x=0)∧Below w.heap.size w w':=by
  go_enter func111,ntmps111
  iterate 3 go_step
  refine Bk (N:=43) (l:=[(0,Am l),(1,Am [0])]) ⟨rfl,(by intro x hx;simp only [List.mem_cons,List.not_mem_nil,or_false] at hx;rcases hx with rfl | rfl<;>rfl),rfl⟩ fun a2 h1=>wv h1 rfl rfl rfl rfl (Am []) (by unfold execOp;rfl) fun a4 h3=>?_
  iterate 4 go_step
  by_cases h0:l=[]
  · have he0:decide (l=[])=true:=decide_eq_true h0
    iterate 2 go_step
    refine mv h3 rfl fun _ h5=>wv h5 rfl rfl rfl rfl (.bool true) (by unfold execOp;simp only [h5.ev 7 rfl];exact Af (Ac3 _ _ _ _ _ he0)) fun a8 h7=>mv h7 rfl fun _ h9=>Bf h9 (by rw [Ae (g:=2) (want:=false) (b:=true) rfl (h9.yields (prev:=9) rfl (by simp))];rfl) rfl (by decide) (fr rfl) fun a1 h2=>Bf h2 (by rw [Ae (g:=2) (want:=false) (b:=true) rfl (h2.yields (prev:=9) rfl (by simp))];rfl) rfl (by decide) (fr rfl) fun a3 h4=>wv h4 rfl rfl rfl rfl (.bool true) (BR rfl (h4.ev 9 rfl) rfl) fun a5 h6=>h6.sk [12,4,0,1] rfl fun h8=>?_
    iterate 3 go_step
    refine wp_cond (t:=true) (h8.ev 12 rfl) ?_
    simp only [if_true]
    refine h8.sk [4,0,1] rfl fun h10=>?_
    iterate 2 go_step
    refine mv h10 rfl fun _ h11=>h11.sk [13,0,1] rfl fun h12=>mv h12 rfl fun _ h13=>h13.sk [4,0,1] rfl fun h14=>?_
    iterate 4 go_step
    simp only [Exit.then,Exit.inBlock]
    show bodyPost _ _ _ Exit.ret _ _
    refine bodyPost_ret (AL rfl (h14.known (4,Am l) (by simp))) h14.defs ?_
    exact ⟨_,rfl,l,rfl,by rw [h0];simp,Below.refl _ _⟩
  · have he0:decide (l=[])=false:=decide_eq_false h0
    iterate 2 go_step
    refine mv h3 rfl fun _ h15=>wv h15 rfl rfl rfl rfl (.bool false) (by unfold execOp;simp only [h15.ev 7 rfl];exact Af (Ac3 _ _ _ _ _ he0)) fun a6 h16=>mv h16 rfl fun _ h17=>Ak h17 (by rw [Ae (g:=2) (want:=false) (b:=false) rfl (h17.yields (prev:=9) rfl (by simp))];rfl) rfl (by decide) (fr rfl) (Am [0]) (by unfold execOp;simp only [h17.ev 1 rfl];rfl) fun a7 h18=>Ak h18 (by rw [Ae (g:=2) (want:=false) (b:=false) rfl (h18.yields (prev:=9) rfl (by simp))];rfl) rfl (by decide) (fr rfl) (.bool false) (by unfold execOp;simp only [h18.ev 10 rfl];exact Af (Ac3 _ _ _ _ _ (by decide))) fun a9 h19=>wv h19 rfl rfl rfl rfl (.bool false) (BR rfl (h19.ev 9 rfl) (by rw [if_neg (by simp)];exact h19.ev 11 rfl)) fun a10 h20=>h20.sk [12,4,0,1] rfl fun h21=>?_
    iterate 3 go_step
    refine wp_cond (t:=false) (h21.ev 12 rfl) ?_
    simp only [Bool.false_eq_true,if_false]
    refine h21.sk [4,0,1] rfl fun h22=>?_
    iterate 6 go_step
    refine mv h22 rfl fun _ h23=>wv h23 rfl rfl rfl rfl (ν (([0]:Λ).length:Int)) (Cq rfl (h23.ev 14 rfl) _) fun a11 h24=>wv h24 rfl rfl rfl rfl (.bool true) (by unfold execOp;simp only [h24.ev 15 rfl];exact Af (ZN _ _ _ _ _ (by rfl))) fun a12 h25=>mv h25 rfl fun _ h26=>Ak h26 (by rw [Ae (g:=3) (want:=true) (b:=true) rfl (h26.yields (prev:=17) rfl (by simp))];rfl) rfl (by decide) (fr rfl) (Am [0]) (by unfold execOp;simp only [h26.ev 1 rfl];rfl) fun a13 h27=>Ak h27 (by rw [Ae (g:=3) (want:=true) (b:=true) rfl (h27.yields (prev:=17) rfl (by simp))];rfl) rfl (by decide) (fr rfl) (Ad 0) (by unfold execOp;simp only [h27.ev 18 rfl];exact Af (Sl [0] 0 0 rfl _)) fun a14 h28=>Ak h28 (by rw [Ae (g:=3) (want:=true) (b:=true) rfl (h28.yields (prev:=17) rfl (by simp))];rfl) rfl (by decide) (fr rfl) (.bool true) (by unfold execOp;simp only [h28.ev 19 rfl];exact Af (Agz _ _ _ _ _ (by decide))) fun a15 h29=>wv h29 rfl rfl rfl rfl (.bool true) (BR rfl (h29.ev 17 rfl) (by rw [if_pos rfl];exact h29.ev 20 rfl)) fun a16 h30=>h30.sk [21,4,0,1] rfl fun h31=>?_
    iterate 3 go_step
    refine wp_cond (t:=true) (h31.ev 21 rfl) ?_
    simp only [if_true]
    refine h31.sk [4,0,1] rfl fun h32=>?_
    go_step
    refine wp_region_held_drew (S:=fun _=>True) κ trivial (fun hS4=>?_)
    refine tv1 hS4 h32 0 rfl rfl (v:=Am l) (fun w1 _=>Au h32 rfl rfl w1) fun a17 h33=>tv1 hS4 h33 1 rfl rfl (v:=Am [0]) (fun w1 _=>Au h33 rfl rfl w1) fun a18 h34=>tv1 hS4 h34 2 rfl rfl (v:=Ad 0) (fun w1 _=>(by show (execOp _ (⟨_,.index 9 (.tmp 23) (.const (ν 0)),_,_,_,_⟩:Oper)).run _ _=_;exact (by unfold execOp;simp only [h34.ev 23 rfl];exact Af (Sl [0] 0 0 rfl _)))) fun a19 h35=>tv1 hS4 h35 4 rfl rfl (v:=Am [0]) (fun w1 _=>Au h35 rfl rfl w1) fun a20 h36=>tv1 hS4 h36 5 rfl rfl (v:=Ad 0) (fun w1 _=>(by show (execOp _ (⟨_,.index 9 (.tmp 26) (.const (ν 0)),_,_,_,_⟩:Oper)).run _ _=_;exact (by unfold execOp;simp only [h36.ev 26 rfl];exact Af (Sl [0] 0 0 rfl _)))) fun a21 h37=>AF 3 rfl rfl κ fun K hK=>DT h37 rfl (by decide) (fr rfl) (fun args=>cF func129 (args:=args) (w:=_)) rfl #[Am l,Ad 0] (by simp only [List.map_toArray,List.map_cons,List.map_nil,h37.ev 22 rfl,h37.ev 24 rfl]) (Ws l hl w.drew) fun a22 v1 w1 r1 h38=>hK _ _ trivial fun hS5=>?_
    clear hK K
    obtain ⟨k,hk,rfl,hz,hend,rfl⟩:=r1
    refine AF 6 rfl rfl κ fun K hK=>DT h38 rfl (by decide) (fr rfl) (fun args=>cF func128 (args:=args) (w:=_)) rfl #[Am (l.take k),Ad 0] (by simp only [List.map_toArray,List.map_cons,List.map_nil,h38.ev 25 rfl,h38.ev 27 rfl]) (Wr (l.take k) (by rw [List.length_take];omega) w.drew) fun a23 v2 w2 r2 h39=>hK _ _ trivial fun hS6=>?_
    clear hK K
    obtain ⟨j,hj,rfl,hz2,hend2,rfl⟩:=r2
    refine h39.sk [28,25,27,26,24,23,22,0,1] rfl fun h40=>tv1 hS6 h40 7 rfl rfl (v:=Am ((l.take k).drop j)) (fun w1 _=>(by show (execOp _ (⟨_,.assign (.tmp 28),_,_,_,_⟩:Oper)).run _ _=_;exact (by unfold execOp;simp only [h40.ev 28 rfl];exact rfl))) fun a24 h41=>?_
    refine wpAnyH_done κ ?_ _
    refine h41.sk [4,0,1] rfl fun h42=>?_
    iterate 3 go_step
    simp only [Exit.then,Exit.inBlock]
    show bodyPost _ _ _ Exit.ret _ _
    refine bodyPost_ret (AL rfl (h42.known (4,Am ((l.take k).drop j)) (by simp))) h42.defs ?_
    exact ⟨_,rfl,_,rfl,Wt hk hj hz hend hz2 hend2,(Below.refl _ w).drew⟩
end
section
def zPt:PtM:=⟨0,[]⟩
def Dy (xs:Λ):Nat→DS→List PtM→Option (List PtM×DS)
  | 0,s,acc=>some (acc,s)
  | n+1,s,acc=>
    if 256<(Bg xs (Bg xs s 4).2 2).1 then none
    else Dy xs n (Bh xs (Bg xs (Bg xs s 4).2 2).2 (Bg xs (Bg xs s 4).2 2).1).2 (acc++[⟨((Bg xs s 4).1:Int),(Bh xs (Bg xs (Bg xs s 4).2 2).2 (Bg xs (Bg xs s 4).2 2).1).1⟩])
def IV (xs:Λ) (L:List PtM) (s:DS):List PtM×Int×Int:=
  if (Bg xs s 4).2.no=false∧(Bg xs s 4).1≠Cb (xs.take s.at_) then ([],0,4)
  else if (Bh xs (Bg xs s 4).2 (Bl (Bg xs s 4).2.at_)).2.no=true then ([],0,3)
  else if ∀ x∈(Bh xs (Bg xs s 4).2 (Bl (Bg xs s 4).2.at_)).1,x=0 then (L,((Bh xs (Bg xs s 4).2 (Bl (Bg xs s 4).2.at_)).2.at_:Int),0) else ([],0,2)
def Xq (xs:Λ):Option (List PtM×DS)→List PtM×Int×Int
  | none=>([],0,2)
  | some r=>IV xs r.1 r.2
def Cd (xs:Λ):List PtM×Int×Int:=
  if 64<(Bg xs ⟨0,false⟩ 2).1 then ([],0,2) else Xq xs (Dy xs (Bg xs ⟨0,false⟩ 2).1 (Bg xs ⟨0,false⟩ 2).2 [])
theorem XA (xs:Λ) (i k:Int):(AC xs i k).getD 0≤9223372036854775807:=by
  unfold AC;split
  · split
    · next h=>exact h
    · exact Nat.zero_le _
  · exact Nat.zero_le _
theorem Jk (xs:Λ) (s:DS) (k:Nat):(Bg xs s k).1≤9223372036854775807:=XA _ _ _
theorem Xu (n:Nat):(List.replicate n zPt).flatMap ptC=(madeCells (Value.agg (ptC zPt).toArray).cells (n*2)).toList:=by
  apply List.ext_getElem?
  intro i
  by_cases hi:i<n*2
  · have h1:=Jc ptC 2 Ie (List.replicate n zPt) (i / 2) (i % 2) (by rw [List.length_replicate];omega) ω
    rw [show i / 2*2+i % 2=i by omega] at h1
    rw [h1,List.getElem_replicate]
    have hr:(madeCells (Value.agg (ptC zPt).toArray).cells (n*2)).toList[i]? = some ((#[Value.int .i64 0,Am []]:Array Value)[i % 2]!):=by
      rw [Array.getElem?_toList]
      unfold madeCells
      rw [Array.getElem?_map,Array.getElem?_range,if_pos hi]
      rfl
    rw [hr]
    show (ptC zPt)[i % 2]? = _
    rcases (ω:i % 2=0∨i % 2=1) with e | e<;>rw [e]<;>rfl
  · rw [List.getElem?_eq_none (by rw [Aa9,List.length_replicate];omega),List.getElem?_eq_none (by rw [Array.length_toList,size_madeCells];omega)]
theorem Tr {w:World} {ops:Array Oper} {rest:List Oper} {o:Oper} {act:Act} {Q:Exit→Act→World→Prop} (hgd:o.guard=none) (l c:Operand)
    (ho:o.op=Op.makeSlice 89 l c) {n:Nat} (hl:act.eval l=ν (n:Int)) (hc:act.eval c=ν (n:Int)) (hn:n≤1000000)
    (h:∀ w',By w' w.heap.size (some ⟨w.heap.size,0,none⟩) n (List.replicate n zPt)→Below w.heap.size w w'→wpList prog ops Q rest (act.put o.dst (.slice (some ⟨w.heap.size,0,none⟩) n n)) w') :
    wpList prog ops Q (o::rest) act w:=by
  have hinfo:(prog.info? 141).map (fun i=>(i.zero,i.size,i.bytes))=some (some (Value.agg (ptC zPt).toArray),2,24):=κ
  obtain ⟨i,h0,h1,h2,h3⟩:=info_parts hinfo
  refine wpList_make_full w hgd l c _ ho w.heap.size 141 i _ 2 υ89 h0 h1 h2 .i64 .i64 _ _ n hl hc rfl rfl (by rw [h3];omega) (by unfold maxLen;omega) (Nat.le_refl _) ?_
  intro w' hown hgrow
  refine h w' ?_ ((Below.refl _ w).grown hgrow (Nat.le_refl _) (fun k hk=>by cases hk))
  show Own _ _ _ _ _ (List.replicate n zPt).length _ _
  rw [List.length_replicate,Xu]
  exact hown
structure DecS (w W:World) (Bb Ba Bs Bt:Nat) (a:Ω) (c:Nat) (xs:Λ) (s:DS):Prop where
  d:DIn W Bb Ba Bs a c xs s
  t:Blk W Bt 170 [MN Bs Bb Ba]
  b:Below w.heap.size w W
  ha:w.heap.size≤Ba
  hs:w.heap.size≤Bs
theorem DecS.row {w W:World} {Bb Ba Bs Bt:Nat} {a:Ω} {c:Nat} {xs:Λ} {s:DS} (h:DecS w W Bb Ba Bs Bt a c xs s) (r0:RowB w a c xs):∀ W',Turns (fun k=>k=Ba∨k=Bs) W W'→RowB W' a c xs:=fun W' t=>
  r0.mono (h.b.trans (t.below h.b.size (fun k hk=>hk.elim (fun e=>e ▸ h.ha) (fun e=>e ▸ h.hs))))
theorem DecS.turns {w W W':World} {Bb Ba Bs Bt:Nat} {a:Ω} {c:Nat} {xs:Λ} {s s2:DS} (h:DecS w W Bb Ba Bs Bt a c xs s) (d2:DIn W' Bb Ba Bs a c xs s2) (t:Turns (fun k=>k=Ba∨k=Bs) W W'):DecS w W' Bb Ba Bs Bt a c xs s2:=
  ⟨d2,t.blk h.t (fun q=>q.elim (Df h.t h.d.p (by decide)) (Df h.t h.d.f (by decide))),h.b.trans (t.below h.b.size (fun k hk=>hk.elim (fun e=>e ▸ h.ha) (fun e=>e ▸ h.hs))),h.ha,h.hs⟩
theorem DecS.mono {w W W':World} {Bb Ba Bs Bt:Nat} {a:Ω} {c:Nat} {xs:Λ} {s:DS} (h:DecS w W Bb Ba Bs Bt a c xs s) (b:Below W.heap.size W W'):DecS w W' Bb Ba Bs Bt a c xs s:=
  ⟨h.d.mono b,h.t.mono b,Ac h.b b,h.ha,h.hs⟩
theorem DecS.grown {w W W':World} {Bb Ba Bs Bt g:Nat} {a:Ω} {c:Nat} {xs:Λ} {s:DS} (h:DecS w W Bb Ba Bs Bt a c xs s) {L:List Value} (hb:Blk W g 141 L) (G:W.grownBy W' (some g)) (hg:w.heap.size≤g):DecS w W' Bb Ba Bs Bt a c xs s:=
  ⟨⟨h.d.b.grownS G (Df h.d.b hb (by decide)),h.d.p.grownS G (Df h.d.p hb (by decide)),h.d.f.grownS G (Df h.d.f hb (by decide)),h.d.at_⟩,h.t.grownS G (Df h.t hb (by decide)),AS h.b G hg h.b.size,h.ha,h.hs⟩
theorem DecS.number {w W:World} {Bb Ba Bs Bt:Nat} {a:Ω} {c:Nat} {xs:Λ} {s:DS} (h:DecS w W Bb Ba Bs Bt a c xs s) (r0:RowB w a c xs) (hl:xs.length≤1000000) (n:Nat) (hn:n≤8) :
    Calls prog 109 #[ν (n:Int),π Bt] W fun e w'=>∃ v,e=.returned v∧v=ν ((Bg xs s n).1:Int)∧DecS w w' Bb Ba Bs Bt a c xs (Bg xs s n).2∧Turns (fun k=>k=Ba∨k=Bs) W w':=
  (Sy h.d h.t (h.row r0) hl n hn).mono fun e w' q=>by
    obtain ⟨v,q1,q2,q3,q4⟩:=q
    exact ⟨v,q1,q2,h.turns q3 q4,q4⟩
theorem DecS.take {w W:World} {Bb Ba Bs Bt:Nat} {a:Ω} {c:Nat} {xs:Λ} {s:DS} (h:DecS w W Bb Ba Bs Bt a c xs s) (r0:RowB w a c xs) (hl:xs.length≤1000000) (n:Nat) (hn:n≤1000000) :
    Calls prog 108 #[ν (n:Int),π Bs,π Bb,π Ba] W fun e w'=>∃ v,e=.returned v∧v=Am (Bh xs s n).1∧DecS w w' Bb Ba Bs Bt a c xs (Bh xs s n).2∧Turns (fun k=>k=Ba∨k=Bs) W w':=
  (Oa h.d (h.row r0) hl n hn).mono fun e w' q=>by
    obtain ⟨v,q1,q2,q3,q4⟩:=q
    exact ⟨v,q1,q2,h.turns q3 q4,q4⟩
theorem SE {w w':World} {B g1 g2:Nat} {e t1 t2:TypeId} {sz:Nat} {a:Ω} {n c:Nat} {cs L1 L2:List Value} (h:Own w B e sz a n c cs) (hb1:Blk w g1 t1 L1) (hb2:Blk w g2 t2 L2) (n1:e≠t1) (n2:e≠t2) (t:Turns (fun k=>k=g1∨k=g2) w w'):Own w' B e sz a n c cs:=by
  refine ⟨h.1,?_⟩
  rcases h.2 with hn | ⟨b,cap,cur,hv,hB,hh,rest⟩
  · exact .inl hn
  · refine .inr ⟨b,cap,cur,hv,hB,(t.block b (Array.getElem?_eq_some_iff.1 hh).1 (fun q=>?_)).trans hh,rest⟩
    rcases q with q | q
    · subst q
      unfold Blk at hb1
      rw [hb1] at hh
      simp at hh
      exact n1 hh.2.symm
    · subst q
      unfold Blk at hb2
      rw [hb2] at hh
      simp at hh
      exact n2 hh.2.symm
theorem DecS.own {w W W':World} {Bb Ba Bs Bt:Nat} {a:Ω} {c:Nat} {xs:Λ} {s:DS} (h:DecS w W Bb Ba Bs Bt a c xs s) {B:Nat} {la:Ω} {lc:Nat} {L:List PtM} (o:By W B la lc L) (t:Turns (fun k=>k=Ba∨k=Bs) W W'):By W' B la lc L:=
  SE o h.d.p h.d.f (by decide) (by decide) t
theorem Qs {w:World} {B g c:Nat} {L:List PtM} {j:Nat} (o:By w B (some ⟨g,0,none⟩) c L) (hj:j<L.length) (p:PtM) :
    ∃ K,Blk w g 141 K∧j*2+2≤K.length∧B≤g∧∀ w',Blk w' g 141 (splice K (j*2) (ptC p))→By w' B (some ⟨g,0,none⟩) c (L.set j p):=by
  obtain ⟨K,hb,hK,hB,hs⟩:=Me o
  refine ⟨K,hb,ω,hB,fun w' hb'=>?_⟩
  have:=hs w' (j*2) (ptC p) (by rw [Ie];omega) hb'
  unfold By
  rw [List.length_set,LF ptC 2 Ie L j p hj]
  exact this
end
section
theorem Il (xs:Λ) (s:DS) (n:Nat):(Bh xs s n).1.length≤n:=by
  unfold Bh;split
  · exact Nat.zero_le _
  · show ((xs.drop s.at_).take n).length≤n;rw [List.length_take];omega
theorem Acd (x y:Operand) (v u:Int) (w:World) {b:Bool} (h:(v != u)=b):(do eqGuard .neq 3 x y (ν v) (ν u);binOp .neq 3 (ν v) (ν u):Sem Value).run prog w=.ok (.bool b) w:=by
  have u3:=υ3
  have a3:=Tryz.isAgg3
  have z3:=Tryz.sizeOf3
  subst h
  go_simp
theorem Aat (x y:Operand) (s:Λ) (w:World) {b:Bool} (h:(!decide (s=[]))=b):(do eqGuard .neq 9 x y (Am s) (.string ⟨#[]⟩);binOp .neq 9 (Am s) (.string ⟨#[]⟩):Sem Value).run prog w=.ok (.bool b) w:=by
  have u3:=υ9
  have a3:=Tryz.isAgg9
  have z3:=Tryz.sizeOf9
  have e:((bsB s).toList == (⟨#[]⟩:ByteArray).toList)=decide (s=[]):=by
    rw [ByteArray.toList_eq,ByteArray.toList_eq,GS]
    by_cases q:s=[]<;>simp [q]
  subst h
  unfold Am
  go_simp
  cases hq:decide (s=[])<;>simp_all [bne]
theorem IQ (n:Int) (t:Λ) (w:World):(Instr.build 141 #[(0,ν n),(1,Am t)]).run prog w=.ok (ptV ⟨n,t⟩) w:=by
  unfold Am ptV ptC
  go_simp
  rfl
theorem OW {P:Program} {fn:Func} {c d e:Nat} (h:fn.results=#[.tmp c,.tmp d,.tmp e]) {tmps:Array Value} {w:World} {v u x:Value} (hc:tmps[c]? = some v) (hd:tmps[d]? = some u) (he:tmps[e]? = some x):(results fn tmps).run P w=.ok (.tuple #[v,u,x]) w:=by
  simp [results,h,hc,hd,he]
def Tw:Value:=.nilFunc
theorem SS {o:Oper} (ho:o.op=.alloc 170) (ρ:Operand→Value) (w:World):(execOp ρ o).run prog w=.ok (.value (π w.heap.size)) (w.alloc (.cells #[Tw] 170)):=by
  unfold execOp;rw [ho];rfl
theorem ST {o:Oper} (ho:o.op=.alloc 3) (ρ:Operand→Value) (w:World):(execOp ρ o).run prog w=.ok (.value (π w.heap.size)) (w.alloc (.cells #[ν 0] 3)):=by
  unfold execOp;rw [ho];rfl
theorem SR {o:Oper} (ho:o.op=.alloc 4) (ρ:Operand→Value) (w:World):(execOp ρ o).run prog w=.ok (.value (π w.heap.size)) (w.alloc (.cells #[.bool false] 4)):=by
  unfold execOp;rw [ho];rfl
theorem Abw {w:World} {g off:Nat} {u:Value} (h:w.cell? ⟨g,off,none⟩=some u) (hz:w.frozen? ⟨g,off,none⟩=false) (f:Fn) (x y:Array Value):(Instr.storeAt 170 (.pointer (some ⟨g,off,none⟩)) (.func f x y)).run prog w=.ok () (w.setCell ⟨g,off,none⟩ (.func f x y)):=by
  have u3:=υ170
  have a3:=Tryz.isAgg170
  have z3:=Tryz.sizeOf170
  go_simp
theorem YL {o:Oper} {x:Operand} (ho:o.op=.box 22 x) {ρ:Operand→Value} {a:Ω} {n c:Nat} (hx:ρ x=.slice a n c) (w:World):(execOp ρ o).run prog w=.ok (.value (π w.heap.size)) (w.alloc (.cells #[.slice a n c] 22)):=by
  unfold execOp;rw [ho];simp only [hx];rfl
theorem Zr {ops:Array Oper} {Q:Exit→Act→World→Prop} {rest:List Oper} {o:Oper} {a:Act} {w:World} {N:Nat} {l:List (Nat×Value)} (h:Kn N l a) (hw:o.guard=none) {d:Nat} (hd:o.dst=some d) (hdN:d<N) (hf:∀ x∈l,x.1≠d) {x:Operand} (ho:o.op=.box 22 x) (ad:Ω) (n c:Nat) (hx:a.eval x=.slice ad n c)
    (k:∀ a' w',Kn N ((d,π w.heap.size)::l) a'→Blk w' w.heap.size 22 [.slice ad n c]→Below w.heap.size w w'→w'.heap.size=w.heap.size+1→wpList prog ops Q rest a' w'):wpList prog ops Q (o::rest) a w:=
  Ak h (Aa hw) hd hdN hf _ (YL ho hx w) fun a' h'=>k a' _ h' (AN rfl _ _) (Ck _ _) (by simp)
theorem Qo {P:Program} {Q:Exit→Act→World→Prop} {oi:Oper} {a:Act} {w:World} {N:Nat} {l:List (Nat×Value)} {K:Act→World→Prop} (h:Kn N l a) {d:Nat} (hd:oi.dst=some d) (hdN:d<N) (hf:∀ x∈l,x.1≠d)
    {fn:FuncId} (hcf:∀ args,(callFunc fn args).run P w=.ok (.enter fn args) w) {y:Operand} {xs:Array Operand} {ts:Array TypeId} (p:oi.op=.call { callee:=.value y,args:=xs,argTypes:=ts }) (vs caps:Array Value) (hy:a.eval y=.func (.func fn) #[] caps) (hx:xs.map a.eval=vs)
    {R:Value→World→Prop} (HC:Calls P fn (vs++caps) w fun e w'=>∃ v,e=.returned v∧R v w')
    (k:∀ a' v w',R v w'→Kn N ((d,v)::l) a'→K a' w'):Oper.wp P oi a w K Q:=by
  have hrun:(execOp a.eval oi).run P w=.ok (.enter fn (vs++caps)) w:=by
    unfold execOp;rw [p]
    simp [resolve,invoke,Deferred.ofValue,hx,hy,hcf]
  unfold Oper.wp
  rw [hrun,Oper.upon_enter]
  refine HC.mono ?_
  rintro e w' ⟨v,rfl,hv⟩
  simp only
  rw [hd]
  exact k _ v w' hv (h.put hdN hf v)
theorem OX {w W:World} {xs:Λ} {act:Act} {la:Ω} {lc:Nat} {L:List PtM} {n E:Int} (hd:act.defers=[]) (h2:act.tmps[2]? = some (.slice la L.length lc)) (h3:act.tmps[3]? = some (ν n)) (h4:act.tmps[4]? = some (ν E)) (hdec:Cd xs=(L,n,E)) (ho:By W w.heap.size la lc L) (hb:Below w.heap.size w W) :
    bodyPost prog Tryz.f82 (fun e w'=>∃ v,e=.returned v∧∃ la lc,v=.tuple #[.slice la (Cd xs).1.length lc,ν (Cd xs).2.1,ν (Cd xs).2.2]∧By w' w.heap.size la lc (Cd xs).1∧Below w.heap.size w w') .ret act W:=by
  refine bodyPost_ret (OW rfl h2 h3 h4) hd ?_
  rw [hdec]
  exact ⟨_,rfl,la,lc,rfl,ho,hb⟩
theorem RH {w:World} {a:Ω} {c:Nat} {xs:Λ} (r0:RowB w a c xs) (hl:xs.length≤1000000) :
    Calls prog 82 #[.slice a xs.length c] w fun e w'=>∃ v,e=.returned v∧∃ la lc,v=.tuple #[.slice la (Cd xs).1.length lc,ν (Cd xs).2.1,ν (Cd xs).2.2]∧By w' w.heap.size la lc (Cd xs).1∧Below w.heap.size w w':=by
  have HR0:=hid r0
  clear r0
  obtain ⟨s0,hs0⟩:∃ s,s=(⟨0,false⟩:DS):=⟨_,rfl⟩
  have HS0:=hid hs0
  clear hs0
  go_enter func82,ntmps82
  iterate 3 go_step
  refine Bk (N:=69) (l:=[(0,.slice a xs.length c)]) ⟨rfl,(by intro x hx;simp only [List.mem_cons,List.not_mem_nil,or_false] at hx;rcases hx with rfl<;>rfl),rfl⟩ fun a2 h1=>Zr h1 rfl rfl (by decide) (fr rfl) rfl a xs.length c (h1.ev 0 rfl) fun a1b w1 h1b k1 b1 s1=>mv h1b rfl fun _ h3=>mv h3 rfl fun _ h5=>mv h5 rfl fun _ h7=>?_
  iterate 5 go_step
  refine wv h7 rfl rfl rfl rfl (π w1.heap.size) (ST rfl _ _) fun a1 h9=>wv h9 rfl rfl rfl rfl (π ((w1.alloc (.cells #[ν 0] 3)).heap.size)) (SR rfl _ _) fun a3 h2=>?_
  obtain ⟨Bb,hBb⟩:∃ x,x=w.heap.size:=⟨_,rfl⟩
  obtain ⟨Ba,hBa⟩:∃ x,x=w1.heap.size:=⟨_,rfl⟩
  obtain ⟨w2,hw2⟩:∃ x,x=w1.alloc (.cells #[ν 0] 3):=⟨_,rfl⟩
  obtain ⟨Bs,hBs⟩:∃ x,x=w2.heap.size:=⟨_,rfl⟩
  obtain ⟨w3,hw3⟩:∃ x,x=w2.alloc (.cells #[.bool false] 4):=⟨_,rfl⟩
  have k2:Blk w2 Ba 3 [ν 0]:=by rw [hw2,hBa];exact AN rfl _ _
  have b2:Below w1.heap.size w1 w2:=by rw [hw2];exact Ck _ _
  have k3:Blk w3 Bs 4 [.bool false]:=by rw [hw3,hBs];exact AN rfl _ _
  have b3:Below w2.heap.size w2 w3:=by rw [hw3];exact Ck _ _
  have D3:DIn w3 Bb Ba Bs a c xs ⟨0,false⟩:=⟨by rw [hBb];exact (k1.mono b2).mono b3,k2.mono b3,k3,Nat.zero_le _⟩
  have B3:Below w.heap.size w w3:=Ac (Ac b1 b2) b3
  have hA:w.heap.size≤Ba:=by rw [hBa];exact b1.size
  have hS:w.heap.size≤Bs:=by rw [hBs];exact Nat.le_trans b1.size b2.size
  rw [← hBb,← hw2,← hBa,← hBs] at h2;rw [← hw2,← hw3]
  clear hw2 hw3 hBa hBs k1 b1 s1 k2 b2 k3 b3
  obtain ⟨w4,hww4⟩:∃ x,x=w3.setCell ⟨Ba,0,none⟩ (ν 0):=⟨_,rfl⟩
  have D4:DIn w4 Bb Ba Bs a c xs ⟨0,false⟩:=by rw [hww4];exact D3.setA 0 (Nat.zero_le _)
  have B4:Below w.heap.size w w4:=by rw [hww4];exact B3.setCell hA _
  refine Dx h2 (wn rfl) rfl (w':=w4) (by rw [hww4];unfold execOp;simp only [h2.ev 5 rfl];exact FO (Ur (D3.p.cell (i:=0) (by simp)) (D3.p.frozen 0) _)) fun a4 h4=>?_
  clear hww4 D3 B3
  obtain ⟨w5,hww5⟩:∃ x,x=w4.setCell ⟨Bs,0,none⟩ (.bool false):=⟨_,rfl⟩
  have D5:DIn w5 Bb Ba Bs a c xs ⟨0,false⟩:=by rw [hww5];exact D4.setS false
  have B5:Below w.heap.size w w5:=by rw [hww5];exact B4.setCell hS _
  refine Dx h4 (wn rfl) rfl (w':=w5) (by rw [hww5];unfold execOp;simp only [h4.ev 6 rfl];exact FO (Lf (D4.f.cell (i:=0) (by simp)) (D4.f.frozen 0) _)) fun a5 h6=>?_
  clear hww5 D4 B4
  iterate 5 go_step
  refine wv h6 rfl rfl rfl rfl (.func (.func 108) #[] #[π Bs,π Bb,π Ba]) (by unfold execOp;simp only [List.map_toArray,List.map_cons,List.map_nil,h6.ev 6 rfl,h6.ev 1 rfl,h6.ev 5 rfl];rfl) fun a6 h8=>wv h8 rfl rfl rfl rfl (π w5.heap.size) (SS rfl _ _) fun a7 h10=>?_
  obtain ⟨Bt,hBt⟩:∃ x,x=w5.heap.size:=⟨_,rfl⟩
  obtain ⟨w6,hw6⟩:∃ x,x=w5.alloc (.cells #[Tw] 170):=⟨_,rfl⟩
  have k6:Blk w6 Bt 170 [Tw]:=by rw [hw6,hBt];exact AN rfl _ _
  have b6:Below w5.heap.size w5 w6:=by rw [hw6];exact Ck _ _
  have D6:=D5.mono b6;have B6:=Ac B5 b6
  have hT:w.heap.size≤Bt:=by rw [hBt];exact B5.size
  rw [← hBt] at h10;rw [← hw6]
  clear hw6 hBt D5 B5 b6
  obtain ⟨w7,hw7⟩:∃ x,x=w6.setCell ⟨Bt,0,none⟩ (MN Bs Bb Ba):=⟨_,rfl⟩
  have HD0:Hid (DecS w w7 Bb Ba Bs Bt a c xs s0):=hid (by rw [hw7,HS0.out];have t:=GC w6 Bt 0 (MN Bs Bb Ba);exact ⟨⟨t.blk D6.b (Df D6.b k6 (by decide)),t.blk D6.p (Df D6.p k6 (by decide)),t.blk D6.f (Df D6.f k6 (by decide)),D6.at_⟩,Blk.set k6 0 _,B6.setCell hT _,hA,hS⟩)
  refine Dx h10 (wn rfl) rfl (w':=w7) (by rw [hw7];unfold execOp;simp only [h10.ev 7 rfl,h10.ev 17 rfl];exact FO (Abw (k6.cell (i:=0) (by simp)) (k6.frozen 0) _ _ _)) fun a8 h11=>?_
  clear hw7 k6 D6 B6
  refine h11.sk [7,6,5,4,3,2,1,0] rfl fun h12=>?_
  iterate 5 go_step
  refine wv h12 rfl rfl rfl rfl (.func (.func 109) #[] #[π Bt]) (by unfold execOp;simp only [List.map_toArray,List.map_cons,List.map_nil,h12.ev 7 rfl];rfl) fun a9 h13=>mv h13 rfl fun _ h14=>h14.sk [8,7,6,5,4,3,2,1,0] rfl fun h15=>?_
  iterate 5 go_step
  refine mv h15 rfl fun _ h16=>Fe h16 (wn rfl) rfl (by decide) (fr rfl) (fun args=>cF func109 (args:=args) (w:=_)) rfl #[ν 2] #[π Bt] (h16.ev 19 rfl) (by simp only [List.map_toArray,List.map_cons,List.map_nil];rfl) (R:=fun v w'=>v=ν ((Bg xs s0 2).1:Int)∧DecS w w' Bb Ba Bs Bt a c xs (Bg xs s0 2).2∧Turns (fun k=>k=Ba∨k=Bs) w7 w') (HD0.out.number HR0.out hl 2 (by decide)) fun a10 vx1 wx1 rx1 h17=>?_
  obtain ⟨rfl,q1,q2⟩:=rx1
  obtain ⟨x1,hx1⟩:∃ x,x=(Bg xs s0 2).1:=⟨_,rfl⟩
  obtain ⟨s1,hs1⟩:∃ x,x=(Bg xs s0 2).2:=⟨_,rfl⟩
  have bd1:x1≤9223372036854775807:=by rw [hx1];exact Jk _ _ _
  rw [← hx1] at h17;rw [← hs1] at q1
  have HX1:=hid hx1;have HS1:=hid hs1;have HD1:=hid q1;clear q1 q2 hx1 hs1
  refine mv h17 rfl fun _ h18=>h18.sk [9,8,7,6,5,4,3,2,1,0] rfl fun h19=>?_
  iterate 4 go_step
  by_cases hb6:64<x1
  · have hbig:decide ((64:Int)<(x1:Int))=true:=decide_eq_true ω
    iterate 2 go_step
    refine mv h19 rfl fun _ h20=>wv h20 rfl rfl rfl rfl (.bool true) (by unfold execOp;simp only [h20.ev 21 rfl];exact Af (Im _ _ _ _ _ hbig)) fun a11 h21=>h21.sk [22,9,8,7,6,5,4,3,2,1,0] rfl fun h22=>?_
    iterate 3 go_step
    refine wp_cond (t:=true) (h22.ev 22 rfl) ?_
    simp only [if_true]
    refine h22.sk [9,8,7,6,5,4,3,2,1,0] rfl fun h23=>?_
    iterate 2 go_step
    refine h23.sk [9,8,7,6,5,4,3,1,0] rfl fun h24=>mv h24 rfl fun _ h25=>h25.sk [2,9,8,7,6,5,4,1,0] rfl fun h26=>mv h26 rfl fun _ h27=>h27.sk [3,2,9,8,7,6,5,1,0] rfl fun h28=>mv h28 rfl fun _ h29=>?_
    iterate 4 go_step
    simp only [Exit.then,Exit.inBlock]
    have hde:Cd xs=([],0,2):=by unfold Cd;rw [← HS0.out,← HX1.out,if_pos hb6]
    exact OX (L:=[]) (la:=none) (lc:=0) h29.defs (h29.known (2,.slice none 0 0) (by simp)) (h29.known (3,ν 0) (by simp)) (h29.known (4,ν 2) (by simp)) hde (Own.nil _ _ _ _) HD1.out.b
  · have hbig:decide ((64:Int)<(x1:Int))=false:=decide_eq_false ω
    iterate 2 go_step
    refine mv h19 rfl fun _ h30=>wv h30 rfl rfl rfl rfl (.bool false) (by unfold execOp;simp only [h30.ev 21 rfl];exact Af (Im _ _ _ _ _ hbig)) fun a12 h31=>h31.sk [22,9,8,7,6,5,4,3,2,1,0] rfl fun h32=>?_
    iterate 3 go_step
    refine wp_cond (t:=false) (h32.ev 22 rfl) ?_
    simp only [Bool.false_eq_true,if_false]
    refine h32.sk [9,8,7,6,5,4,3,2,1,0] rfl fun h33=>?_
    iterate 3 go_step
    have hdec:Cd xs=Xq xs (Dy xs x1 s1 []):=by unfold Cd;rw [← HS0.out,← HX1.out,← HS1.out,if_neg hb6]
    have HDEC:=hid hdec;clear hdec
    iterate 2 go_step
    refine mv h33 rfl fun _ h34=>Tr rfl (.tmp 23) (.tmp 23) rfl (n:=x1) (h34.ev 23 rfl) (h34.ev 23 rfl) ω ?_
    intro w8 o8 b8
    obtain ⟨lg,hlg⟩:∃ x,x=wx1.heap.size:=⟨_,rfl⟩
    rw [← hlg] at o8;rw [← hlg]
    refine Bk (h34.put (d:=24) (by decide) (fr rfl) (.slice (some ⟨lg,0,none⟩) x1 x1)) fun a13 h35=>?_
    have HD8:=hid (HD1.out.mono b8);have HOW8:Hid (By w8 w.heap.size (some ⟨lg,0,none⟩) x1 (List.replicate x1 zPt)):=hid (Own.low o8 (by rw [hlg];exact HD1.out.b.size));clear o8 b8
    refine mv h35 rfl fun _ h36=>h36.sk [10,9,8,7,6,5,4,3,2,1,0] rfl fun h37=>?_
    iterate 6 go_step
    refine mv h37 rfl fun _ h38=>wv h38 rfl rfl rfl rfl (ν (x1:Int)) (Fq rfl (h38.ev 25 rfl) _) fun a14 h39=>mv h39 rfl fun _ h40=>h40.sk [27,26,10,9,8,7,6,5,4,3,2,1,0] rfl fun h41=>?_
    iterate 4 go_step
    refine wp_loop (I:=fun a' w'=>∃ (j:Nat) (s:DS) (acc:List PtM),j≤x1∧Kn 69 [(27,ν (j:Int)),(26,ν (x1:Int)),(10,.slice (some ⟨lg,0,none⟩) x1 x1),(9,ν (x1:Int)),(8,.func (.func 109) #[] #[π Bt]),(7,π Bt),(6,π Bs),(5,π Ba),(4,ν 0),(3,ν 0),(2,.slice none 0 0),(1,π Bb),(0,.slice a xs.length c)] a'∧DecS w w' Bb Ba Bs Bt a c xs s∧By w' w.heap.size (some ⟨lg,0,none⟩) x1 (acc++List.replicate (x1-j) zPt)∧acc.length=j∧Dy xs x1 s1 []=Dy xs (x1-j) s acc) (μ:=fun a' _=>x1-(intOf (a'.eval (.tmp 27))).toNat) ⟨0,s1,[],Nat.zero_le _,h41,HD8.out,HOW8.out,rfl,rfl⟩ ?_
    clear HD8 HOW8 h41
    rintro aL wL ⟨j,s,acc,hj,hK,hD,hO,hal,hg⟩
    have HD:=hid hD;have HO:=hid hO;have HG:=hid hg;clear hD hO hg
    by_cases hlt:j<x1
    · have hd0:decide ((j:Int)<(x1:Int))=true:=decide_eq_true (by omega)
      have HAL:Hid ((acc++List.replicate (x1-j) zPt).length=x1):=hid (by rw [List.length_append,List.length_replicate];omega)
      have HG1:Hid (Dy xs x1 s1 []=(if 256<(Bg xs (Bg xs s 4).2 2).1 then none else Dy xs (x1-(j+1)) (Bh xs (Bg xs (Bg xs s 4).2 2).2 (Bg xs (Bg xs s 4).2 2).1).2 (acc++[⟨((Bg xs s 4).1:Int),(Bh xs (Bg xs (Bg xs s 4).2 2).2 (Bg xs (Bg xs s 4).2 2).1).1⟩]))):=hid (by rw [HG.out,show x1-j=(x1-(j+1))+1 by omega];rfl)
      iterate 3 go_step
      refine wv hK rfl rfl rfl rfl (.bool true) (by unfold execOp;simp only [hK.ev 27 rfl,hK.ev 26 rfl];exact Af (KO _ _ _ _ _ hd0)) fun a15 h42=>?_
      iterate 4 go_step
      refine wp_cond (t:=true) (h42.ev 28 rfl) ?_
      simp only [if_true]
      refine h42.sk [27,26,10,9,8,7,6,5,4,3,2,1,0] rfl fun h43=>?_
      iterate 7 go_step
      refine mv h43 rfl fun _ h44=>mv h44 rfl fun _ h45=>h45.sk [11,27,26,10,9,8,7,6,5,4,3,2,1,0] rfl fun h46=>?_
      iterate 5 go_step
      refine mv h46 rfl fun _ h47=>Fe h47 (wn rfl) rfl (by decide) (fr rfl) (fun args=>cF func109 (args:=args) (w:=_)) rfl #[ν 4] #[π Bt] (h47.ev 30 rfl) (by simp only [List.map_toArray,List.map_cons,List.map_nil];rfl) (R:=fun v w'=>v=ν ((Bg xs s 4).1:Int)∧DecS w w' Bb Ba Bs Bt a c xs (Bg xs s 4).2∧Turns (fun k=>k=Ba∨k=Bs) wL w') (HD.out.number HR0.out hl 4 (by decide)) fun a16 vx2 wx2 rx2 h48=>?_
      obtain ⟨rfl,q1,q2⟩:=rx2
      obtain ⟨x2,hx2⟩:∃ x,x=(Bg xs s 4).1:=⟨_,rfl⟩
      obtain ⟨s2,hs2⟩:∃ x,x=(Bg xs s 4).2:=⟨_,rfl⟩
      have bd2:x2≤9223372036854775807:=by rw [hx2];exact Jk _ _ _
      rw [← hx2] at h48;rw [← hs2] at q1
      have HOW2:=hid (HD.out.own HO.out q2)
      have HX2:=hid hx2;have HS2:=hid hs2;have HD2:=hid q1;clear q1 q2 hx2 hs2
      refine mv h48 rfl fun _ h49=>Fe h49 (wn rfl) rfl (by decide) (fr rfl) (fun args=>cF func109 (args:=args) (w:=_)) rfl #[ν 2] #[π Bt] (h49.ev 32 rfl) (by simp only [List.map_toArray,List.map_cons,List.map_nil];rfl) (R:=fun v w'=>v=ν ((Bg xs s2 2).1:Int)∧DecS w w' Bb Ba Bs Bt a c xs (Bg xs s2 2).2∧Turns (fun k=>k=Ba∨k=Bs) wx2 w') (HD2.out.number HR0.out hl 2 (by decide)) fun a17 vx3 wx3 rx3 h50=>?_
      obtain ⟨rfl,q1,q2⟩:=rx3
      obtain ⟨x3,hx3⟩:∃ x,x=(Bg xs s2 2).1:=⟨_,rfl⟩
      obtain ⟨s3,hs3⟩:∃ x,x=(Bg xs s2 2).2:=⟨_,rfl⟩
      have bd3:x3≤9223372036854775807:=by rw [hx3];exact Jk _ _ _
      rw [← hx3] at h50;rw [← hs3] at q1
      have HOW3:=hid (HD2.out.own HOW2.out q2)
      have HX3:=hid hx3;have HS3:=hid hs3;have HD3:=hid q1;clear q1 q2 hx3 hs3
      refine mv h50 rfl fun _ h51=>mv h51 rfl fun _ h52=>h52.sk [13,12,11,27,26,10,9,8,7,6,5,4,3,2,1,0] rfl fun h53=>?_
      iterate 4 go_step
      by_cases hl2:256<x3
      · have hlong:decide ((256:Int)<(x3:Int))=true:=decide_eq_true (by omega)
        iterate 2 go_step
        refine mv h53 rfl fun _ h54=>wv h54 rfl rfl rfl rfl (.bool true) (by unfold execOp;simp only [h54.ev 34 rfl];exact Af (Im _ _ _ _ _ hlong)) fun a18 h55=>h55.sk [35,13,12,11,27,26,10,9,8,7,6,5,4,3,2,1,0] rfl fun h56=>?_
        iterate 3 go_step
        refine wp_cond (t:=true) (h56.ev 35 rfl) ?_
        simp only [if_true]
        refine h56.sk [13,12,11,27,26,10,9,8,7,6,5,4,3,2,1,0] rfl fun h57=>?_
        iterate 2 go_step
        refine h57.sk [13,12,11,27,26,10,9,8,7,6,5,4,3,1,0] rfl fun h58=>mv h58 rfl fun _ h59=>h59.sk [2,13,12,11,27,26,10,9,8,7,6,5,4,1,0] rfl fun h60=>mv h60 rfl fun _ h61=>h61.sk [3,2,13,12,11,27,26,10,9,8,7,6,5,1,0] rfl fun h62=>mv h62 rfl fun _ h63=>?_
        iterate 4 go_step
        simp only [Exit.then,Exit.inBlock]
        have hde:Cd xs=([],0,2):=by rw [HDEC.out,HG1.out,← HS2.out,← HX3.out,if_pos hl2];rfl
        exact OX (L:=[]) (la:=none) (lc:=0) h63.defs (h63.known (2,.slice none 0 0) (by simp)) (h63.known (3,ν 0) (by simp)) (h63.known (4,ν 2) (by simp)) hde (Own.nil _ _ _ _) HD3.out.b
      · have hlong:decide ((256:Int)<(x3:Int))=false:=decide_eq_false (by omega)
        iterate 2 go_step
        refine mv h53 rfl fun _ h64=>wv h64 rfl rfl rfl rfl (.bool false) (by unfold execOp;simp only [h64.ev 34 rfl];exact Af (Im _ _ _ _ _ hlong)) fun a19 h65=>h65.sk [35,13,12,11,27,26,10,9,8,7,6,5,4,3,2,1,0] rfl fun h66=>?_
        iterate 3 go_step
        refine wp_cond (t:=false) (h66.ev 35 rfl) ?_
        simp only [Bool.false_eq_true,if_false]
        refine h66.sk [13,12,11,27,26,10,9,8,7,6,5,4,3,2,1,0] rfl fun h67=>?_
        iterate 4 go_step
        refine mv h67 rfl fun _ h68=>mv h68 rfl fun _ h69=>mv h69 rfl fun _ h70=>sw1 h70 rfl (v:=.func (.func 108) #[] #[π Bs,π Bb,π Ba]) (rld h70 rfl rfl (OH (by have z:=HD3.out.t.cell (i:=0) (by simp);exact z))) fun a20 h71=>mv h71 rfl fun _ h72=>Fe h72 (wn rfl) rfl (by decide) (fr rfl) (fun args=>cF func108 (args:=args) (w:=_)) rfl #[ν (x3:Int)] #[π Bs,π Bb,π Ba] (h72.ev 39 rfl) (by simp only [List.map_toArray,List.map_cons,List.map_nil,h72.ev 40 rfl]) (R:=fun v w'=>v=Am (Bh xs s3 x3).1∧DecS w w' Bb Ba Bs Bt a c xs (Bh xs s3 x3).2∧Turns (fun k=>k=Ba∨k=Bs) wx3 w') (HD3.out.take HR0.out hl x3 ω) fun a21 vx4 wx4 rx4 h73=>?_
        obtain ⟨rfl,q1,q2⟩:=rx4
        obtain ⟨x4,hx4⟩:∃ x,x=(Bh xs s3 x3).1:=⟨_,rfl⟩
        obtain ⟨s4,hs4⟩:∃ x,x=(Bh xs s3 x3).2:=⟨_,rfl⟩
        have bd4:x4.length≤x3:=by rw [hx4];exact Il _ _ _
        rw [← hx4] at h73;rw [← hs4] at q1
        have HOW4:=hid (HD3.out.own HOW3.out q2)
        have HX4:=hid hx4;have HS4:=hid hs4;have HD4:=hid q1;clear q1 q2 hx4 hs4
        refine wv h73 rfl rfl rfl rfl (ptV ⟨(x2:Int),x4⟩) (by unfold execOp;simp only [List.map_toArray,List.map_cons,List.map_nil,h73.ev 38 rfl,h73.ev 41 rfl];exact Af (IQ _ _ _)) fun a22 h74=>wv h74 rfl rfl rfl rfl (.pointer (some ⟨lg,0+j*2,none⟩)) (by unfold execOp;simp only [h74.ev 36 rfl,h74.ev 37 rfl];exact Af (ixP lg 0 x1 x1 j hlt _)) fun a23 h75=>?_
        obtain ⟨K,hk0,hKl,hlB,hset⟩:=Qs (j:=j) HOW4.out (by rw [HAL.out];exact hlt) (⟨(x2:Int),x4⟩:PtM)
        refine MU h75 rfl rfl rfl lg (0+j*2) (h75.ev 43 rfl) (ptC (⟨(x2:Int),x4⟩:PtM)) (h75.ev 42 rfl) (by rw [IB];rfl) (Jp _) hk0 (by show 0+j*2+2≤_;omega) fun a24 wq h76 kq gq=>?_
        rw [Nat.zero_add] at kq
        have HQ:=hid (hset wq kq);have HDQ:=hid (HD4.out.grown hk0 gq hlB);clear hset kq gq hk0
        refine h76.sk [13,12,11,27,26,10,9,8,7,6,5,4,3,2,1,0] rfl fun h77=>?_
        iterate 4 go_step
        refine bv h77 rfl (z:=ν ((j+1:Nat):Int)) (Nh _ _ j ω) fun a25 h78=>h78.sk [44,13,12,11,26,10,9,8,7,6,5,4,3,2,1,0] rfl fun h79=>mv h79 rfl fun _ h80=>h80.sk [27,13,12,11,26,10,9,8,7,6,5,4,3,2,1,0] rfl fun h81=>?_
        iterate 2 go_step
        refine ⟨⟨j+1,s4,acc++[⟨(x2:Int),x4⟩],ω,h81.subs rfl,HDQ.out,?_,by rw [List.length_append,hal];rfl,?_⟩,?_⟩
        · have z:=HQ.out;have e:(acc++List.replicate (x1-j) zPt).set j ⟨(x2:Int),x4⟩=acc++[⟨(x2:Int),x4⟩]++List.replicate (x1-(j+1)) zPt:=by rw [show x1-j=(x1-(j+1))+1 by omega,List.replicate_succ,List.set_append_right _ _ (by omega),hal,Nat.sub_self,List.set_cons_zero,List.append_assoc];rfl
          rw [e] at z;exact z
        · rw [HG1.out,← HS2.out,← HX3.out,if_neg hl2,← HX2.out,← HS3.out,← HX4.out,← HS4.out]
        · rw [h81.ev 27 rfl,hK.ev 27 rfl];simp [intOf];omega
    · have hd0:decide ((j:Int)<(x1:Int))=false:=decide_eq_false (by omega)
      obtain rfl:j=x1:=by omega
      have hdec2:Cd xs=IV xs acc s:=by rw [HDEC.out,HG.out,Nat.sub_self];rfl
      have HOA:Hid (By wL w.heap.size (some ⟨lg,0,none⟩) j acc):=hid (by have z:=HO.out;rw [Nat.sub_self,List.replicate_zero,List.append_nil] at z;exact z)
      have HDE:=hid hdec2;clear hdec2
      iterate 3 go_step
      refine wv hK rfl rfl rfl rfl (.bool false) (by unfold execOp;simp only [hK.ev 27 rfl,hK.ev 26 rfl];exact Af (KO _ _ _ _ _ hd0)) fun a26 h82=>?_
      iterate 4 go_step
      refine wp_cond (t:=false) (h82.ev 28 rfl) ?_
      simp only [Bool.false_eq_true,if_false]
      refine h82.sk [27,26,10,9,8,7,6,5,4,3,2,1,0] rfl fun h83=>?_
      iterate 7 go_step
      refine sw1 h83 rfl (v:=.slice a xs.length c) (rld h83 rfl rfl (OJ (HD.out.d.b.cell (i:=0) (by simp)))) fun a27 h84=>sw1 h84 rfl (v:=ν (s.at_:Int)) (rld h84 rfl rfl (Cy (HD.out.d.p.cell (i:=0) (by simp)))) fun a28 h85=>?_
      obtain ⟨hsl,hrow⟩:=Aeh (HD.out.row HR0.out _ (Turns.refl _ _)) s.at_ HD.out.d.at_
      have htl:(xs.take s.at_).length=s.at_:=by rw [List.length_take];exact Nat.min_eq_left HD.out.d.at_
      refine wv h85 rfl rfl rfl rfl (.slice a s.at_ c) (by unfold execOp;simp only [Option.map_some,Option.map_none,h85.ev 45 rfl,h85.ev 46 rfl];exact Af (hsl _)) fun a29 h86=>BI h86 (wn rfl) rfl (by decide) (fr rfl) (fun args=>cF func75 (args:=args) (w:=_)) rfl #[.slice a s.at_ c] (by simp only [List.map_toArray,List.map_cons,List.map_nil,h86.ev 47 rfl]) (R:=fun v w'=>v=.int .u32 (Cb (xs.take s.at_):Int)∧Below wL.heap.size wL w') ((by have z:=Ij a c (xs.take s.at_) wL hrow;rw [htl] at z;exact z.mono fun e w' q=>⟨_,q.1,rfl,q.2⟩)) fun a30 vc wc rc h87=>?_
      obtain ⟨rfl,bc⟩:=rc
      obtain ⟨cr,hcr⟩:∃ x,x=Cb (xs.take s.at_):=⟨_,rfl⟩
      have hcl:cr<4294967296:=by rw [hcr];exact DM _
      rw [← hcr] at h87
      have HCR:=hid hcr;have HDC:=hid (HD.out.mono bc);have HOC:=hid (Own.mono HOA.out bc);clear hcr bc
      refine wv h87 rfl rfl rfl rfl (ν (cr:Int)) (by unfold execOp;simp only [h87.ev 48 rfl];exact Af (TG cr hcl _)) fun a31 h88=>mv h88 rfl fun _ h89=>h89.sk [14,27,26,10,9,8,7,6,5,4,3,2,1,0] rfl fun h90=>?_
      iterate 5 go_step
      refine mv h90 rfl fun _ h91=>Fe h91 (wn rfl) rfl (by decide) (fr rfl) (fun args=>cF func109 (args:=args) (w:=_)) rfl #[ν 4] #[π Bt] (h91.ev 50 rfl) (by simp only [List.map_toArray,List.map_cons,List.map_nil];rfl) (R:=fun v w'=>v=ν ((Bg xs s 4).1:Int)∧DecS w w' Bb Ba Bs Bt a c xs (Bg xs s 4).2∧Turns (fun k=>k=Ba∨k=Bs) wc w') (HDC.out.number HR0.out hl 4 (by decide)) fun a32 vx5 wx5 rx5 h92=>?_
      obtain ⟨rfl,q1,q2⟩:=rx5
      obtain ⟨x5,hx5⟩:∃ x,x=(Bg xs s 4).1:=⟨_,rfl⟩
      obtain ⟨s5,hs5⟩:∃ x,x=(Bg xs s 4).2:=⟨_,rfl⟩
      have bd5:x5≤9223372036854775807:=by rw [hx5];exact Jk _ _ _
      rw [← hx5] at h92;rw [← hs5] at q1
      have HOW5:=hid (HDC.out.own HOC.out q2)
      have HX5:=hid hx5;have HS5:=hid hs5;have HD5:=hid q1;clear q1 q2 hx5 hs5
      refine mv h92 rfl fun _ h93=>h93.sk [15,14,27,26,10,9,8,7,6,5,4,3,2,1,0] rfl fun h94=>?_
      iterate 3 go_step
      have hend:Cd xs=IV xs acc s:=HDE.out
      unfold IV at hend
      rw [← HS5.out,← HX5.out,← HCR.out] at hend
      have HE:=hid hend;clear hend
      go_step
      by_cases hsum:s5.no=false∧x5≠cr
      · have hno:=hsum.1
        have hne:((x5:Int) != (cr:Int))=true:=by have:=hsum.2;simp;omega
        iterate 2 go_step
        refine sw1 h94 rfl (v:=.bool false) (rld h94 rfl rfl (Ej (by have z:=HD5.out.d.f.cell (i:=0) (by simp);rw [hno] at z;exact z))) fun a33 h95=>wv h95 rfl rfl rfl rfl (.bool true) (Pd rfl (h95.ev 52 rfl)) fun a34 h96=>mv h96 rfl fun _ h97=>Ak h97 (by rw [Ae (g:=2) (want:=true) (b:=true) rfl (h97.yields (prev:=54) rfl (by simp))];rfl) rfl (by decide) (fr rfl) (ν (x5:Int)) (by unfold execOp;simp only [h97.ev 15 rfl];rfl) fun a35 h98=>Ak h98 (by rw [Ae (g:=2) (want:=true) (b:=true) rfl (h98.yields (prev:=54) rfl (by simp))];rfl) rfl (by decide) (fr rfl) (ν (cr:Int)) (by unfold execOp;simp only [h98.ev 14 rfl];rfl) fun a36 h99=>Ak h99 (by rw [Ae (g:=2) (want:=true) (b:=true) rfl (h99.yields (prev:=54) rfl (by simp))];rfl) rfl (by decide) (fr rfl) (.bool true) (by unfold execOp;simp only [h99.ev 55 rfl,h99.ev 56 rfl];exact Af (Acd _ _ _ _ _ hne)) fun a37 h100=>wv h100 rfl rfl rfl rfl (.bool true) (BR rfl (h100.ev 54 rfl) (by rw [if_pos rfl];exact h100.ev 57 rfl)) fun a38 h101=>h101.sk [58,15,14,27,26,10,9,8,7,6,5,4,3,2,1,0] rfl fun h102=>?_
        iterate 3 go_step
        refine wp_cond (t:=true) (h102.ev 58 rfl) ?_
        simp only [if_true]
        refine h102.sk [15,14,27,26,10,9,8,7,6,5,4,3,2,1,0] rfl fun h103=>?_
        iterate 2 go_step
        refine h103.sk [15,14,27,26,10,9,8,7,6,5,4,3,1,0] rfl fun h104=>mv h104 rfl fun _ h105=>h105.sk [2,15,14,27,26,10,9,8,7,6,5,4,1,0] rfl fun h106=>mv h106 rfl fun _ h107=>h107.sk [3,2,15,14,27,26,10,9,8,7,6,5,1,0] rfl fun h108=>mv h108 rfl fun _ h109=>?_
        iterate 4 go_step
        simp only [Exit.then,Exit.inBlock]
        have hde:Cd xs=([],0,4):=by rw [HE.out,if_pos hsum]
        exact OX (L:=[]) (la:=none) (lc:=0) h109.defs (h109.known (2,.slice none 0 0) (by simp)) (h109.known (3,ν 0) (by simp)) (h109.known (4,ν 4) (by simp)) hde (Own.nil _ _ _ _) HD5.out.b
      · skip
        have HE1:=hid (HE.out.trans (if_neg hsum))
        cases hno:s5.no with
        | true=>
          iterate 2 go_step
          refine sw1 h94 rfl (v:=.bool true) (rld h94 rfl rfl (Ej (by have z:=HD5.out.d.f.cell (i:=0) (by simp);rw [hno] at z;exact z))) fun a39 h110=>wv h110 rfl rfl rfl rfl (.bool false) (Pd rfl (h110.ev 52 rfl)) fun a40 h111=>mv h111 rfl fun _ h112=>Bf h112 (by rw [Ae (g:=2) (want:=true) (b:=false) rfl (h112.yields (prev:=54) rfl (by simp))];rfl) rfl (by decide) (fr rfl) fun a41 h113=>Bf h113 (by rw [Ae (g:=2) (want:=true) (b:=false) rfl (h113.yields (prev:=54) rfl (by simp))];rfl) rfl (by decide) (fr rfl) fun a42 h114=>Bf h114 (by rw [Ae (g:=2) (want:=true) (b:=false) rfl (h114.yields (prev:=54) rfl (by simp))];rfl) rfl (by decide) (fr rfl) fun a43 h115=>wv h115 rfl rfl rfl rfl (.bool false) (BR rfl (h115.ev 54 rfl) rfl) fun a44 h116=>h116.sk [58,15,14,27,26,10,9,8,7,6,5,4,3,2,1,0] rfl fun h117=>?_
          iterate 3 go_step
          refine wp_cond (t:=false) (h117.ev 58 rfl) ?_
          simp only [Bool.false_eq_true,if_false]
          refine h117.sk [15,14,27,26,10,9,8,7,6,5,4,3,2,1,0] rfl fun h118=>?_
          iterate 4 go_step
          have HDd:=hid (HD5.out.mono (Below.refl _ _).drew);have HOd:=hid (Own.mono HOW5.out (Below.refl _ _).drew)
          refine wp_region_held_drew (S:=fun w'=>Blk w' Bt 170 [MN Bs Bb Ba]) κ HDd.out.t (fun hS20=>?_)
          refine tv1 hS20 h118 0 rfl rfl (v:=.func (.func 108) #[] #[π Bs,π Bb,π Ba]) (fun w1 hSw=>rld h118 rfl rfl (OH (by have z:=hSw.cell (i:=0) (by simp);exact z))) fun a45 h119=>AF 1 rfl rfl κ fun K hK=>Di (w':=wx5.drew) h119 rfl (by decide) (fr rfl) (ν (s5.at_:Int)) (by show (execOp _ (⟨_,.load 3 (.tmp 5),_,_,_,_⟩:Oper)).run _ _=_;exact (by unfold execOp;simp only [h119.ev 5 rfl];exact Af (Cy (HDd.out.d.p.cell (i:=0) (by simp))))) fun a46 h120=>hK _ _ hS20 fun hS21=>?_
          clear hK K
          refine AF 2 rfl rfl κ fun K hK=>DT h120 rfl (by decide) (fr rfl) (fun args=>cF func110 (args:=args) (w:=_)) rfl #[ν (s5.at_:Int)] (by simp only [List.map_toArray,List.map_cons,List.map_nil,h120.ev 60 rfl]) (R:=fun v w'=>v=ν (Bl s5.at_:Int)∧wx5.drew=w') ((Hi s5.at_ (by have:=HDd.out.d.at_;omega) wx5.drew).mono fun e w' q=>⟨_,q.1,rfl,q.2⟩) fun a47 vp wp rp h121=>hK _ _ (by rw [← rp.2];exact hS21) fun hS22=>?_
          clear hK K
          obtain ⟨rfl,rfl⟩:=rp
          refine AF 3 rfl rfl κ fun K hK=>Qo h121 rfl (by decide) (fr rfl) (fun args=>cF func108 (args:=args) (w:=_)) rfl #[ν (Bl s5.at_:Int)] #[π Bs,π Bb,π Ba] (h121.ev 59 rfl) (by simp only [List.map_toArray,List.map_cons,List.map_nil,h121.ev 61 rfl]) (R:=fun v w'=>v=Am (Bh xs s5 (Bl s5.at_)).1∧DecS w w' Bb Ba Bs Bt a c xs (Bh xs s5 (Bl s5.at_)).2∧Turns (fun k=>k=Ba∨k=Bs) wx5.drew w') (HDd.out.take HR0.out hl (Bl s5.at_) (by unfold Bl;omega)) fun a48 vx6 wx6 rx6 h122=>hK _ _ rx6.2.1.t fun hS23=>?_
          clear hK K
          obtain ⟨rfl,q1,q2⟩:=rx6
          obtain ⟨x6,hx6⟩:∃ x,x=(Bh xs s5 (Bl s5.at_)).1:=⟨_,rfl⟩
          obtain ⟨s6,hs6⟩:∃ x,x=(Bh xs s5 (Bl s5.at_)).2:=⟨_,rfl⟩
          have bd6:x6.length≤(Bl s5.at_):=by rw [hx6];exact Il _ _ _
          rw [← hx6] at h122;rw [← hs6] at q1
          have HOW6:=hid (HDd.out.own HOd.out q2)
          have HX6:=hid hx6;have HS6:=hid hs6;have HD6:=hid q1;clear q1 q2 hx6 hs6
          refine tv1 hS23 h122 4 rfl rfl (v:=Am x6) (fun w1 _=>(by show (execOp _ (⟨_,.assign (.tmp 62),_,_,_,_⟩:Oper)).run _ _=_;exact (by unfold execOp;simp only [h122.ev 62 rfl];exact rfl))) fun a49 h123=>?_
          refine wpAnyH_done κ ?_ _
          refine h123.sk [16,15,14,27,26,10,9,8,7,6,5,4,3,2,1,0] rfl fun h124=>?_
          iterate 2 go_step
          rw [← HS6.out,← HX6.out] at HE1
          go_step
          cases hno:s6.no with
          | true=>
            iterate 2 go_step
            refine sw1 h124 rfl (v:=.bool true) (rld h124 rfl rfl (Ej (by have z:=HD6.out.d.f.cell (i:=0) (by simp);rw [hno] at z;exact z))) fun a50 h125=>?_
            iterate 3 go_step
            refine wp_cond (t:=true) (h125.ev 63 rfl) ?_
            simp only [if_true]
            refine h125.sk [16,15,14,27,26,10,9,8,7,6,5,4,3,2,1,0] rfl fun h126=>?_
            iterate 2 go_step
            refine h126.sk [16,15,14,27,26,10,9,8,7,6,5,4,3,1,0] rfl fun h127=>mv h127 rfl fun _ h128=>h128.sk [2,16,15,14,27,26,10,9,8,7,6,5,4,1,0] rfl fun h129=>mv h129 rfl fun _ h130=>h130.sk [3,2,16,15,14,27,26,10,9,8,7,6,5,1,0] rfl fun h131=>mv h131 rfl fun _ h132=>?_
            iterate 4 go_step
            simp only [Exit.then,Exit.inBlock]
            have hde:Cd xs=([],0,3):=by rw [HE1.out,if_pos hno]
            exact OX (L:=[]) (la:=none) (lc:=0) h132.defs (h132.known (2,.slice none 0 0) (by simp)) (h132.known (3,ν 0) (by simp)) (h132.known (4,ν 3) (by simp)) hde (Own.nil _ _ _ _) HD6.out.b
          | false=>
            iterate 2 go_step
            refine sw1 h124 rfl (v:=.bool false) (rld h124 rfl rfl (Ej (by have z:=HD6.out.d.f.cell (i:=0) (by simp);rw [hno] at z;exact z))) fun a51 h133=>?_
            iterate 3 go_step
            refine wp_cond (t:=false) (h133.ev 63 rfl) ?_
            simp only [Bool.false_eq_true,if_false]
            refine h133.sk [16,15,14,27,26,10,9,8,7,6,5,4,3,2,1,0] rfl fun h134=>?_
            iterate 3 go_step
            have HE2:=hid (HE1.out.trans (if_neg (by rw [hno];decide)))
            go_step
            by_cases hz:∀ x∈x6,x=0
            · skip
              iterate 2 go_step
              refine mv h134 rfl fun _ h135=>BI h135 (wn rfl) rfl (by decide) (fr rfl) (fun args=>cF func111 (args:=args) (w:=_)) rfl #[Am x6,Am [0]] (by simp only [List.map_toArray,List.map_cons,List.map_nil,h135.ev 64 rfl];rfl) (R:=fun v w'=>∃ r:Λ,v=Am r∧(r=[]↔∀ x∈x6,x=0)∧Below wx6.heap.size wx6 w') (Jw x6 (by have:=bd6;unfold Bl at this;omega) wx6) fun a52 vt wt rt h136=>?_
              obtain ⟨tr,rfl,htr,bt⟩:=rt
              have HDT:=hid (HD6.out.mono bt);have HOT:=hid (Own.mono HOW6.out bt);clear bt
              have hrne:(!decide (tr=[]))=false:=by rw [decide_eq_true (htr.2 hz)];rfl
              refine wv h136 rfl rfl rfl rfl (.bool false) (by unfold execOp;simp only [h136.ev 65 rfl];exact Af (Aat _ _ _ _ hrne)) fun a53 h137=>h137.sk [66,16,15,14,27,26,10,9,8,7,6,5,4,3,2,1,0] rfl fun h138=>?_
              iterate 3 go_step
              refine wp_cond (t:=false) (h138.ev 66 rfl) ?_
              simp only [Bool.false_eq_true,if_false]
              refine h138.sk [16,15,14,27,26,10,9,8,7,6,5,4,3,2,1,0] rfl fun h139=>?_
              iterate 4 go_step
              refine wp_region_held_drew (S:=fun w'=>w'=wt.drew) κ rfl (fun hS236=>?_)
              have HDe:=hid (HDT.out.mono (Below.refl _ _).drew);have HOe:=hid (Own.mono HOT.out (Below.refl _ _).drew)
              refine tv1 hS236 h139 0 rfl rfl (v:=.slice (some ⟨lg,0,none⟩) j j) (fun w1 hSw=>(by cases hSw;exact (by show (execOp _ (⟨_,.move (.tmp 10),_,_,_,_⟩:Oper)).run _ _=_;exact (by unfold execOp;simp only [h139.ev 10 rfl];rfl)))) fun a54 h140=>tv1 hS236 h140 1 rfl rfl (v:=ν (s6.at_:Int)) (fun w1 hSw=>(by cases hSw;exact (by show (execOp _ (⟨_,.load 3 (.tmp 5),_,_,_,_⟩:Oper)).run _ _=_;exact (by unfold execOp;simp only [h140.ev 5 rfl];exact Af (Cy (HDe.out.d.p.cell (i:=0) (by simp))))))) fun a55 h141=>h141.sk [68,67,16,15,14,27,26,10,9,8,7,6,5,4,3,1,0] rfl fun h142=>tv1 hS236 h142 2 rfl rfl (v:=.slice (some ⟨lg,0,none⟩) j j) (fun w1 hSw=>(by cases hSw;exact (by show (execOp _ (⟨_,.assign (.tmp 67),_,_,_,_⟩:Oper)).run _ _=_;exact (by unfold execOp;simp only [h142.ev 67 rfl];rfl)))) fun a56 h143=>h143.sk [2,68,67,16,15,14,27,26,10,9,8,7,6,5,4,1,0] rfl fun h144=>tv1 hS236 h144 3 rfl rfl (v:=ν (s6.at_:Int)) (fun w1 hSw=>(by cases hSw;exact (by show (execOp _ (⟨_,.assign (.tmp 68),_,_,_,_⟩:Oper)).run _ _=_;exact (by unfold execOp;simp only [h144.ev 68 rfl];rfl)))) fun a57 h145=>h145.sk [3,2,68,67,16,15,14,27,26,10,9,8,7,6,5,1,0] rfl fun h146=>tv1 hS236 h146 4 rfl rfl (v:=ν 0) (fun w1 hSw=>(by cases hSw;exact (by show (execOp _ (⟨_,.assign (.const (ν 0)),_,_,_,_⟩:Oper)).run _ _=_;exact rfl))) fun a58 h147=>?_
              refine wpAnyH_done (by kernel_rfl) ?_ _
              refine h147.sk [4,3,2,16,15,14,27,26,10,9,8,7,6,5,1,0] rfl fun h148=>?_
              iterate 3 go_step
              exact OX (L:=acc) (la:=some ⟨lg,0,none⟩) (lc:=j) h148.defs (by rw [hal];exact h148.known (2,.slice (some ⟨lg,0,none⟩) j j) (by simp)) (h148.known (3,ν (s6.at_:Int)) (by simp)) (h148.known (4,ν 0) (by simp)) (HE2.out.trans (if_pos hz)) HOe.out HDe.out.b
            · skip
              iterate 2 go_step
              refine mv h134 rfl fun _ h149=>BI h149 (wn rfl) rfl (by decide) (fr rfl) (fun args=>cF func111 (args:=args) (w:=_)) rfl #[Am x6,Am [0]] (by simp only [List.map_toArray,List.map_cons,List.map_nil,h149.ev 64 rfl];rfl) (R:=fun v w'=>∃ r:Λ,v=Am r∧(r=[]↔∀ x∈x6,x=0)∧Below wx6.heap.size wx6 w') (Jw x6 (by have:=bd6;unfold Bl at this;omega) wx6) fun a59 vt wt rt h150=>?_
              obtain ⟨tr,rfl,htr,bt⟩:=rt
              have HDT:=hid (HD6.out.mono bt);have HOT:=hid (Own.mono HOW6.out bt);clear bt
              have hrne:(!decide (tr=[]))=true:=by rw [decide_eq_false (fun q=>hz (htr.1 q))];rfl
              refine wv h150 rfl rfl rfl rfl (.bool true) (by unfold execOp;simp only [h150.ev 65 rfl];exact Af (Aat _ _ _ _ hrne)) fun a60 h151=>h151.sk [66,16,15,14,27,26,10,9,8,7,6,5,4,3,2,1,0] rfl fun h152=>?_
              iterate 3 go_step
              refine wp_cond (t:=true) (h152.ev 66 rfl) ?_
              simp only [if_true]
              refine h152.sk [16,15,14,27,26,10,9,8,7,6,5,4,3,2,1,0] rfl fun h153=>?_
              iterate 2 go_step
              refine h153.sk [16,15,14,27,26,10,9,8,7,6,5,4,3,1,0] rfl fun h154=>mv h154 rfl fun _ h155=>h155.sk [2,16,15,14,27,26,10,9,8,7,6,5,4,1,0] rfl fun h156=>mv h156 rfl fun _ h157=>h157.sk [3,2,16,15,14,27,26,10,9,8,7,6,5,1,0] rfl fun h158=>mv h158 rfl fun _ h159=>?_
              iterate 4 go_step
              simp only [Exit.then,Exit.inBlock]
              have hde:Cd xs=([],0,2):=by rw [HE2.out,if_neg hz]
              exact OX (L:=[]) (la:=none) (lc:=0) h159.defs (h159.known (2,.slice none 0 0) (by simp)) (h159.known (3,ν 0) (by simp)) (h159.known (4,ν 2) (by simp)) hde (Own.nil _ _ _ _) HDT.out.b
        | false=>
          have hne:((x5:Int) != (cr:Int))=false:=by simp;have:¬ x5≠cr:=fun q=>hsum ⟨hno,q⟩;omega
          iterate 2 go_step
          refine sw1 h94 rfl (v:=.bool false) (rld h94 rfl rfl (Ej (by have z:=HD5.out.d.f.cell (i:=0) (by simp);rw [hno] at z;exact z))) fun a61 h160=>wv h160 rfl rfl rfl rfl (.bool true) (Pd rfl (h160.ev 52 rfl)) fun a62 h161=>mv h161 rfl fun _ h162=>Ak h162 (by rw [Ae (g:=2) (want:=true) (b:=true) rfl (h162.yields (prev:=54) rfl (by simp))];rfl) rfl (by decide) (fr rfl) (ν (x5:Int)) (by unfold execOp;simp only [h162.ev 15 rfl];rfl) fun a63 h163=>Ak h163 (by rw [Ae (g:=2) (want:=true) (b:=true) rfl (h163.yields (prev:=54) rfl (by simp))];rfl) rfl (by decide) (fr rfl) (ν (cr:Int)) (by unfold execOp;simp only [h163.ev 14 rfl];rfl) fun a64 h164=>Ak h164 (by rw [Ae (g:=2) (want:=true) (b:=true) rfl (h164.yields (prev:=54) rfl (by simp))];rfl) rfl (by decide) (fr rfl) (.bool false) (by unfold execOp;simp only [h164.ev 55 rfl,h164.ev 56 rfl];exact Af (Acd _ _ _ _ _ hne)) fun a65 h165=>wv h165 rfl rfl rfl rfl (.bool false) (BR rfl (h165.ev 54 rfl) (by rw [if_pos rfl];exact h165.ev 57 rfl)) fun a66 h166=>h166.sk [58,15,14,27,26,10,9,8,7,6,5,4,3,2,1,0] rfl fun h167=>?_
          iterate 3 go_step
          refine wp_cond (t:=false) (h167.ev 58 rfl) ?_
          simp only [Bool.false_eq_true,if_false]
          refine h167.sk [15,14,27,26,10,9,8,7,6,5,4,3,2,1,0] rfl fun h168=>?_
          iterate 4 go_step
          have HDd:=hid (HD5.out.mono (Below.refl _ _).drew);have HOd:=hid (Own.mono HOW5.out (Below.refl _ _).drew)
          refine wp_region_held_drew (S:=fun w'=>Blk w' Bt 170 [MN Bs Bb Ba]) κ HDd.out.t (fun hS20=>?_)
          refine tv1 hS20 h168 0 rfl rfl (v:=.func (.func 108) #[] #[π Bs,π Bb,π Ba]) (fun w1 hSw=>rld h168 rfl rfl (OH (by have z:=hSw.cell (i:=0) (by simp);exact z))) fun a67 h169=>AF 1 rfl rfl κ fun K hK=>Di (w':=wx5.drew) h169 rfl (by decide) (fr rfl) (ν (s5.at_:Int)) (by show (execOp _ (⟨_,.load 3 (.tmp 5),_,_,_,_⟩:Oper)).run _ _=_;exact (by unfold execOp;simp only [h169.ev 5 rfl];exact Af (Cy (HDd.out.d.p.cell (i:=0) (by simp))))) fun a68 h170=>hK _ _ hS20 fun hS21=>?_
          clear hK K
          refine AF 2 rfl rfl κ fun K hK=>DT h170 rfl (by decide) (fr rfl) (fun args=>cF func110 (args:=args) (w:=_)) rfl #[ν (s5.at_:Int)] (by simp only [List.map_toArray,List.map_cons,List.map_nil,h170.ev 60 rfl]) (R:=fun v w'=>v=ν (Bl s5.at_:Int)∧wx5.drew=w') ((Hi s5.at_ (by have:=HDd.out.d.at_;omega) wx5.drew).mono fun e w' q=>⟨_,q.1,rfl,q.2⟩) fun a69 vp wp rp h171=>hK _ _ (by rw [← rp.2];exact hS21) fun hS22=>?_
          clear hK K
          obtain ⟨rfl,rfl⟩:=rp
          refine AF 3 rfl rfl κ fun K hK=>Qo h171 rfl (by decide) (fr rfl) (fun args=>cF func108 (args:=args) (w:=_)) rfl #[ν (Bl s5.at_:Int)] #[π Bs,π Bb,π Ba] (h171.ev 59 rfl) (by simp only [List.map_toArray,List.map_cons,List.map_nil,h171.ev 61 rfl]) (R:=fun v w'=>v=Am (Bh xs s5 (Bl s5.at_)).1∧DecS w w' Bb Ba Bs Bt a c xs (Bh xs s5 (Bl s5.at_)).2∧Turns (fun k=>k=Ba∨k=Bs) wx5.drew w') (HDd.out.take HR0.out hl (Bl s5.at_) (by unfold Bl;omega)) fun a70 vx6 wx6 rx6 h172=>hK _ _ rx6.2.1.t fun hS23=>?_
          clear hK K
          obtain ⟨rfl,q1,q2⟩:=rx6
          obtain ⟨x6,hx6⟩:∃ x,x=(Bh xs s5 (Bl s5.at_)).1:=⟨_,rfl⟩
          obtain ⟨s6,hs6⟩:∃ x,x=(Bh xs s5 (Bl s5.at_)).2:=⟨_,rfl⟩
          have bd6:x6.length≤(Bl s5.at_):=by rw [hx6];exact Il _ _ _
          rw [← hx6] at h172;rw [← hs6] at q1
          have HOW6:=hid (HDd.out.own HOd.out q2)
          have HX6:=hid hx6;have HS6:=hid hs6;have HD6:=hid q1;clear q1 q2 hx6 hs6
          refine tv1 hS23 h172 4 rfl rfl (v:=Am x6) (fun w1 _=>(by show (execOp _ (⟨_,.assign (.tmp 62),_,_,_,_⟩:Oper)).run _ _=_;exact (by unfold execOp;simp only [h172.ev 62 rfl];exact rfl))) fun a71 h173=>?_
          refine wpAnyH_done κ ?_ _
          refine h173.sk [16,15,14,27,26,10,9,8,7,6,5,4,3,2,1,0] rfl fun h174=>?_
          iterate 2 go_step
          rw [← HS6.out,← HX6.out] at HE1
          go_step
          cases hno:s6.no with
          | true=>
            iterate 2 go_step
            refine sw1 h174 rfl (v:=.bool true) (rld h174 rfl rfl (Ej (by have z:=HD6.out.d.f.cell (i:=0) (by simp);rw [hno] at z;exact z))) fun a72 h175=>?_
            iterate 3 go_step
            refine wp_cond (t:=true) (h175.ev 63 rfl) ?_
            simp only [if_true]
            refine h175.sk [16,15,14,27,26,10,9,8,7,6,5,4,3,2,1,0] rfl fun h176=>?_
            iterate 2 go_step
            refine h176.sk [16,15,14,27,26,10,9,8,7,6,5,4,3,1,0] rfl fun h177=>mv h177 rfl fun _ h178=>h178.sk [2,16,15,14,27,26,10,9,8,7,6,5,4,1,0] rfl fun h179=>mv h179 rfl fun _ h180=>h180.sk [3,2,16,15,14,27,26,10,9,8,7,6,5,1,0] rfl fun h181=>mv h181 rfl fun _ h182=>?_
            iterate 4 go_step
            simp only [Exit.then,Exit.inBlock]
            have hde:Cd xs=([],0,3):=by rw [HE1.out,if_pos hno]
            exact OX (L:=[]) (la:=none) (lc:=0) h182.defs (h182.known (2,.slice none 0 0) (by simp)) (h182.known (3,ν 0) (by simp)) (h182.known (4,ν 3) (by simp)) hde (Own.nil _ _ _ _) HD6.out.b
          | false=>
            iterate 2 go_step
            refine sw1 h174 rfl (v:=.bool false) (rld h174 rfl rfl (Ej (by have z:=HD6.out.d.f.cell (i:=0) (by simp);rw [hno] at z;exact z))) fun a73 h183=>?_
            iterate 3 go_step
            refine wp_cond (t:=false) (h183.ev 63 rfl) ?_
            simp only [Bool.false_eq_true,if_false]
            refine h183.sk [16,15,14,27,26,10,9,8,7,6,5,4,3,2,1,0] rfl fun h184=>?_
            iterate 3 go_step
            have HE2:=hid (HE1.out.trans (if_neg (by rw [hno];decide)))
            go_step
            by_cases hz:∀ x∈x6,x=0
            · skip
              iterate 2 go_step
              refine mv h184 rfl fun _ h185=>BI h185 (wn rfl) rfl (by decide) (fr rfl) (fun args=>cF func111 (args:=args) (w:=_)) rfl #[Am x6,Am [0]] (by simp only [List.map_toArray,List.map_cons,List.map_nil,h185.ev 64 rfl];rfl) (R:=fun v w'=>∃ r:Λ,v=Am r∧(r=[]↔∀ x∈x6,x=0)∧Below wx6.heap.size wx6 w') (Jw x6 (by have:=bd6;unfold Bl at this;omega) wx6) fun a74 vt wt rt h186=>?_
              obtain ⟨tr,rfl,htr,bt⟩:=rt
              have HDT:=hid (HD6.out.mono bt);have HOT:=hid (Own.mono HOW6.out bt);clear bt
              have hrne:(!decide (tr=[]))=false:=by rw [decide_eq_true (htr.2 hz)];rfl
              refine wv h186 rfl rfl rfl rfl (.bool false) (by unfold execOp;simp only [h186.ev 65 rfl];exact Af (Aat _ _ _ _ hrne)) fun a75 h187=>h187.sk [66,16,15,14,27,26,10,9,8,7,6,5,4,3,2,1,0] rfl fun h188=>?_
              iterate 3 go_step
              refine wp_cond (t:=false) (h188.ev 66 rfl) ?_
              simp only [Bool.false_eq_true,if_false]
              refine h188.sk [16,15,14,27,26,10,9,8,7,6,5,4,3,2,1,0] rfl fun h189=>?_
              iterate 4 go_step
              refine wp_region_held_drew (S:=fun w'=>w'=wt.drew) κ rfl (fun hS318=>?_)
              have HDe:=hid (HDT.out.mono (Below.refl _ _).drew);have HOe:=hid (Own.mono HOT.out (Below.refl _ _).drew)
              refine tv1 hS318 h189 0 rfl rfl (v:=.slice (some ⟨lg,0,none⟩) j j) (fun w1 hSw=>(by cases hSw;exact (by show (execOp _ (⟨_,.move (.tmp 10),_,_,_,_⟩:Oper)).run _ _=_;exact (by unfold execOp;simp only [h189.ev 10 rfl];rfl)))) fun a76 h190=>tv1 hS318 h190 1 rfl rfl (v:=ν (s6.at_:Int)) (fun w1 hSw=>(by cases hSw;exact (by show (execOp _ (⟨_,.load 3 (.tmp 5),_,_,_,_⟩:Oper)).run _ _=_;exact (by unfold execOp;simp only [h190.ev 5 rfl];exact Af (Cy (HDe.out.d.p.cell (i:=0) (by simp))))))) fun a77 h191=>h191.sk [68,67,16,15,14,27,26,10,9,8,7,6,5,4,3,1,0] rfl fun h192=>tv1 hS318 h192 2 rfl rfl (v:=.slice (some ⟨lg,0,none⟩) j j) (fun w1 hSw=>(by cases hSw;exact (by show (execOp _ (⟨_,.assign (.tmp 67),_,_,_,_⟩:Oper)).run _ _=_;exact (by unfold execOp;simp only [h192.ev 67 rfl];rfl)))) fun a78 h193=>h193.sk [2,68,67,16,15,14,27,26,10,9,8,7,6,5,4,1,0] rfl fun h194=>tv1 hS318 h194 3 rfl rfl (v:=ν (s6.at_:Int)) (fun w1 hSw=>(by cases hSw;exact (by show (execOp _ (⟨_,.assign (.tmp 68),_,_,_,_⟩:Oper)).run _ _=_;exact (by unfold execOp;simp only [h194.ev 68 rfl];rfl)))) fun a79 h195=>h195.sk [3,2,68,67,16,15,14,27,26,10,9,8,7,6,5,1,0] rfl fun h196=>tv1 hS318 h196 4 rfl rfl (v:=ν 0) (fun w1 hSw=>(by cases hSw;exact (by show (execOp _ (⟨_,.assign (.const (ν 0)),_,_,_,_⟩:Oper)).run _ _=_;exact rfl))) fun a80 h197=>?_
              refine wpAnyH_done (by kernel_rfl) ?_ _
              refine h197.sk [4,3,2,16,15,14,27,26,10,9,8,7,6,5,1,0] rfl fun h198=>?_
              iterate 3 go_step
              exact OX (L:=acc) (la:=some ⟨lg,0,none⟩) (lc:=j) h198.defs (by rw [hal];exact h198.known (2,.slice (some ⟨lg,0,none⟩) j j) (by simp)) (h198.known (3,ν (s6.at_:Int)) (by simp)) (h198.known (4,ν 0) (by simp)) (HE2.out.trans (if_pos hz)) HOe.out HDe.out.b
            · skip
              iterate 2 go_step
              refine mv h184 rfl fun _ h199=>BI h199 (wn rfl) rfl (by decide) (fr rfl) (fun args=>cF func111 (args:=args) (w:=_)) rfl #[Am x6,Am [0]] (by simp only [List.map_toArray,List.map_cons,List.map_nil,h199.ev 64 rfl];rfl) (R:=fun v w'=>∃ r:Λ,v=Am r∧(r=[]↔∀ x∈x6,x=0)∧Below wx6.heap.size wx6 w') (Jw x6 (by have:=bd6;unfold Bl at this;omega) wx6) fun a81 vt wt rt h200=>?_
              obtain ⟨tr,rfl,htr,bt⟩:=rt
              have HDT:=hid (HD6.out.mono bt);have HOT:=hid (Own.mono HOW6.out bt);clear bt
              have hrne:(!decide (tr=[]))=true:=by rw [decide_eq_false (fun q=>hz (htr.1 q))];rfl
              refine wv h200 rfl rfl rfl rfl (.bool true) (by unfold execOp;simp only [h200.ev 65 rfl];exact Af (Aat _ _ _ _ hrne)) fun a82 h201=>h201.sk [66,16,15,14,27,26,10,9,8,7,6,5,4,3,2,1,0] rfl fun h202=>?_
              iterate 3 go_step
              refine wp_cond (t:=true) (h202.ev 66 rfl) ?_
              simp only [if_true]
              refine h202.sk [16,15,14,27,26,10,9,8,7,6,5,4,3,2,1,0] rfl fun h203=>?_
              iterate 2 go_step
              refine h203.sk [16,15,14,27,26,10,9,8,7,6,5,4,3,1,0] rfl fun h204=>mv h204 rfl fun _ h205=>h205.sk [2,16,15,14,27,26,10,9,8,7,6,5,4,1,0] rfl fun h206=>mv h206 rfl fun _ h207=>h207.sk [3,2,16,15,14,27,26,10,9,8,7,6,5,1,0] rfl fun h208=>mv h208 rfl fun _ h209=>?_
              iterate 4 go_step
              simp only [Exit.then,Exit.inBlock]
              have hde:Cd xs=([],0,2):=by rw [HE2.out,if_neg hz]
              exact OX (L:=[]) (la:=none) (lc:=0) h209.defs (h209.known (2,.slice none 0 0) (by simp)) (h209.known (3,ν 0) (by simp)) (h209.known (4,ν 2) (by simp)) hde (Own.nil _ _ _ _) HDT.out.b
end
end Go.Proofs.YtpnknncmacjdkaaGreatDoor
