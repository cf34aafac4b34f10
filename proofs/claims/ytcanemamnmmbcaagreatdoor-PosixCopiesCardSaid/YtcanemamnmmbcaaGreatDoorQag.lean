/- Parts of the proof. -/
import Derived.Test.YtcanemamnmmbcaaGreatDoorQaf
namespace Go.Proofs.YtcanemamnmmbcaaGreatDoor
open Go.RowKit
set_option linter.unusedSimpArgs false
set_option linter.unusedVariables false
set_option linter.unusedSectionVars false
set_option maxRecDepth 100000
set_option maxHeartbeats 8000000
section
theorem ME {s:ByteArray} (h:mayN s=true):s.size≤12:=by
 unfold mayN at h
 simp only [Bool.and_eq_true,decide_eq_true_eq] at h
 exact h.1.1.1.2
theorem IO {s:ByteArray} (h:mayN s=true):s.size≤maxLen:=Nat.le_trans (ME h) (by unfold maxLen;omega)
theorem Pb {α:Type} {x:Option α} (h:x=none):x.isSome=false:=by rw [h];rfl
theorem CO {s:ByteArray} (h:mayN s=true):s.size≤maxLen:=IO h
theorem JH {L:List ByteArray} (h:L.all mayN=true) {i:Nat} (hi:i<L.length):(L.getD i Bv).size≤maxLen:=by
 rw [List.getD_eq_getElem?_getD,List.getElem?_eq_getElem hi]
 exact IO (List.all_eq_true.1 h _ (List.getElem_mem hi))
theorem IV {F:FsM}:∀ {L:List ByteArray} {n:Nat},¬ (Ao F n L).1=0→Ao F n L=((Ao F n L).1,0)
 | [],n,h=>absurd rfl h
 | s::L,n,h=>by
  unfold Ao at h ⊢
  by_cases hd:F.dir n=true
  ·rw [if_pos hd] at h ⊢
   cases hl:Ai F.E n s with
   | none=>rfl
   | some m=>rw [hl] at h;exact IV h
  ·rw [if_neg hd]
theorem Qw {F:FsM} {X:List UInt8} (h:¬ (Ac F X).1=0):Ac F X=((Ac F X).1,0):=by
 cases hp:Ag X with
 | none=>rw [GW hp]
 | some L=>rw [CV hp] at h ⊢;exact IV h
def Jj (X:List UInt8):Bool:=decide (Ag X≠none∧Ag X≠some [])
theorem On {X:List UInt8} (h:Ag X=none∨Ag X=some []):Jj X=false:=decide_eq_false fun q=>h.elim q.1 q.2
theorem QV {X:List UInt8} {M:List ByteArray} {x:ByteArray} (h:Ag X=some (M++[x])):Jj X=true:=decide_eq_true (by rw [h];exact ⟨(fun q=>by cases q),(fun q=>by simp at q)⟩)
theorem RW {X:List UInt8} {n:Nat} (h:n≤X.length):X.take n=Ba X n:=by
 unfold Ba;rw [show n-X.length=0 by omega];simp
theorem RX {X:List UInt8} {n k:Nat} (h:X.length<n∧k=n-X.length):X++List.replicate k 0=Ba X n:=by
 unfold Ba;rw [List.take_of_length_le ω,h.2]
theorem LB:∀ k,Lib.repeatL [(0:UInt8)] k=List.replicate k 0
 | 0=>rfl
 | k+1=>by
  rw [List.replicate_succ,← LB k];rfl
theorem Ra {w:World} {R:List Ch} (hS:Sep w R) {k:Nat} (hk:k≤1000):CallsR Tryz.prog 86 #[σ [0],ν (k:Int)] w (fun v w'=>v=σ (List.replicate k 0)∧Sep w' R):=
 (strings_Repeat (Ad [0]) k w ω (by rw [show (Ad [0]).size=1 from rfl];omega)).mono fun e w' ⟨e1,hb⟩=>⟨_,e1,by
  have:(Ad [0]).data.toList=[0]:=rfl
  rw [this,LB];rfl,hS.mono hb⟩
theorem Ue (T E:TypeId) {P:Program} (hu:P.underlying T=some (.slice E)) (hE:((P.info? E).map (·.size)).isSome=true) (ad:Option Addr) (n c:Nat) {b:Nat} (hb:b≤c) (w:World) :
  (Instr.sliceAt T (.slice ad n c) none (some (ν (b:Int))) (some (ν (b:Int)))).run P w=.ok (.slice ad b b) w:=by
 have i1:(b:Int)≤c:=ω
 cases hq:P.info? E with
 | none=>simp [hq] at hE
 | some q=>
  simp [Instr.sliceAt,Instr.slice,Instr.sliceBounds,Instr.sliceBound,asIntOf,underlying,hu,Sem.run_bind,sizeOf,typeInfo,hq,i1]
  cases ad<;>simp [Addr.add]<;>exact fun q=>absurd q ω
theorem TB {P:Program} {o:Oper} {a:Act} {N:Nat} {l:List (Nat×Value)} (h:Kn N l a) {T:TypeId} {x hi mx:Operand} (ho:o.op=.slice T x none (some hi) (some mx)) {v u vh vm:Value} (hx:opv l x=some v) (hh:opv l hi=some vh) (hm:opv l mx=some vm) (hf:∀ w,(Instr.sliceAt T v none (some vh) (some vm)).run P w=.ok u w) (w:World):(execOp a.eval o).run P w=.ok (.value u) w:=by
 unfold execOp;rw [ho]
 simp only [h.op hx,h.op hh,h.op hm,Option.map_none,Option.map_some]
 exact EB (hf w)
theorem Fk {w:World} {R:List Ch} {X:List UInt8} (hS:Sep w R) (hX:X.length≤1000) {L:List ByteArray} (h:Ag X=some L) :
  CallsR Tryz.prog 76 #[σ X] w fun v w'=>∃ pa pc,v=.tuple #[.slice pa L.length pc,ν 0]∧Sep w' (Ak 0 9 1 pa L.length pc (L.flatMap sE)::R):=
 (Hd X hX w).mono fun e w' ⟨a,c,e1,hO,hb⟩=>by
  rw [h] at e1 hO
  exact ⟨_,e1,a,c,rfl,by rw [LP];exact hS.own hb hO⟩
theorem Hc {w:World} {R:List Ch} {X:List UInt8} (hS:Sep w R) (hX:X.length≤1000) (h:Ag X=none) :
  CallsR Tryz.prog 76 #[σ X] w fun v w'=>∃ pa pc,v=.tuple #[.slice pa 0 pc,ν 15]∧Sep w' R:=
 (Hd X hX w).mono fun e w' ⟨a,c,e1,hO,hb⟩=>by
  rw [h] at e1
  exact ⟨_,e1,a,c,rfl,hS.mono hb⟩
theorem Pa {w:World} {R:List Ch} (hS:Sep w R) (X Y:List UInt8) (hX:X.length≤1000) (hY:Y.length≤1000):CallsR Tryz.prog 78 #[σ X,σ Y] w (fun v w'=>v=.bool (CX (Ag X) (Ag Y))∧Sep w' R):=
 (Mt X Y hX hY w).mono fun e w' ⟨e1,hb⟩=>⟨_,e1,rfl,hS.mono hb⟩
theorem Gc {w:World} {cf ob:Nat} {F:FsM} {A:AdM} {R:List Ch} {δ:Nat→Int} (hS0:Sep w ((cP cf ob F A)++R)) (hok:FsC F δ) (hz:SmF F) {c fd:Int} (hwf:wfD (c,fd)) {m:Nat} (hl:Az F.O c fd=some m) :
  CallsR Tryz.prog 73 #[π cf,ν c,ν fd] w (fun v w'=>v=.tuple #[π (A.ad m),ν 0]∧Sep w' ((cP cf ob F A)++R)):=by
 have hS:=Sep.tail_many (xs:=cP cf ob F A) hS0;clear hS0
 have hz0:=hz;obtain ⟨hz1,hz2,hz3⟩:F.N.length≤1000∧F.E.length≤1000∧F.O.length≤1000:=hz
 refine AB Tryz.func73 rfl (N:=20) Tryz.ntmps73 (by show 3≤20;decide) [(0,π cf),(1,ν c),(2,ν fd)] rfl fun _ h1=>sqr fun _ hK3=>mvs 2 h1 rfl fun _ h6=>wpList_nil<|hK3 _ _<|sqr fun _ hK8=>mvs 2 h6 rfl fun _ h2=>fav h2 rfl (BQ _ _) fun _ h3=>ldv h3 hS 0 υ63 rfl rfl rfl rfl fun _ h4=>mvs 2 h4 rfl fun _ h5=>bu h5 (v:=.agg #[ν c,ν fd]) rfl (fun w=>κ) fun _ h7=>?_
 refine sw1 h7 rfl (Ds h7 rfl rfl rfl (IP (F:=F) (A:=A) (hS.get 2 rfl:MapG KO _ _ _ _) (by exact hwf) hl)) fun _ h8=>mv h8 rfl fun _ h9=>h9.sn [8,7,6,0,1,2] rfl fun h10=>hK8 _ _<|sq fun _ hK1=>sqr fun _ hK2=>mv h10 rfl fun _ h11=>bv h11 rfl (IY _ υ62 _ _ _) fun _ h12=>h12.sn [18,8,7,6,0,1,2] rfl fun h13=>hK2 _ _<|wcF h13 rfl rfl ?_
 refine h13.sk [8,7,6,0,1,2] rfl fun h14=>wp_skip<|hK1 _ _<|sqr fun _ hK4=>mv h14 rfl fun _ h15=>h15.sk [19,8,7,0,1,2] rfl fun h16=>mv h16 rfl fun _ h17=>h17.sk [6,19,8,0,1,2] rfl fun h18=>mv h18 rfl fun _ h19=>h19.sn [7,6,8,0,1,2] rfl fun h20=>hK4 _ _ ?_
 refine wp_ret ?_
 try simp only [Exit.then,Exit.inBlock]
 refine Bn (v:=.tuple #[π (A.ad m),ν 0]) (FS h20 rfl rfl rfl) h20.defs ?_
 exact ⟨rfl,Sep.tail_un (xs:=[_,_,_]) hS⟩
theorem GV {w:World} {cf ob:Nat} {F:FsM} {A:AdM} {R:List Ch} {δ:Nat→Int} (hS0:Sep w ((cP cf ob F A)++R)) (hok:FsC F δ) (hz:SmF F) {c fd:Int} (hwf:wfD (c,fd)) (hl:Az F.O c fd=none) :
  CallsR Tryz.prog 73 #[π cf,ν c,ν fd] w (fun v w'=>v=.tuple #[.pointer none,ν 16]∧Sep w' ((cP cf ob F A)++R)):=by
 have hS:=Sep.tail_many (xs:=cP cf ob F A) hS0;clear hS0
 have hz0:=hz;obtain ⟨hz1,hz2,hz3⟩:F.N.length≤1000∧F.E.length≤1000∧F.O.length≤1000:=hz
 refine AB Tryz.func73 rfl (N:=20) Tryz.ntmps73 (by show 3≤20;decide) [(0,π cf),(1,ν c),(2,ν fd)] rfl fun _ h1=>sqr fun _ hK3=>mvs 2 h1 rfl fun _ h6=>wpList_nil<|hK3 _ _<|sqr fun _ hK8=>mvs 2 h6 rfl fun _ h2=>fav h2 rfl (BQ _ _) fun _ h3=>ldv h3 hS 0 υ63 rfl rfl rfl rfl fun _ h4=>mvs 2 h4 rfl fun _ h5=>bu h5 (v:=.agg #[ν c,ν fd]) rfl (fun w=>κ) fun _ h7=>?_
 have hm1:=AI (Pb hl)
 refine sw1 h7 rfl (Ds h7 rfl rfl rfl (Kx (F:=F) (A:=A) (hS.get 2 rfl:MapG KO _ _ _ _) (by exact hwf) hm1)) fun _ h8=>mv h8 rfl fun _ h9=>h9.sn [8,7,6,0,1,2] rfl fun h10=>hK8 _ _<|sq fun _ hK1=>sqr fun _ hK2=>mv h10 rfl fun _ h11=>bv h11 rfl (IY _ υ62 _ _ _) fun _ h12=>h12.sn [18,8,7,6,0,1,2] rfl fun h13=>hK2 _ _<|wcT h13 rfl rfl ?_
 refine h13.sk [8,7,6,0,1,2] rfl fun h14=>sqr fun _ hK4=>h14.sk [8,7,0,1,2] rfl fun h15=>mv h15 rfl fun _ h16=>h16.sk [6,8,0,1,2] rfl fun h17=>mv h17 rfl fun _ h18=>wpList_nil<|hK4 _ _<|wp_ret ?_
 try simp only [Exit.then,Exit.inBlock]
 refine Bn (v:=.tuple #[.pointer none,.int .i64 16]) (FS h18 rfl rfl rfl) h18.defs ?_
 exact ⟨rfl,Sep.tail_un (xs:=[_,_,_]) hS⟩
theorem Jb {w:World} {cf ob:Nat} {F:FsM} {A:AdM} {R:List Ch} {δ:Nat→Int} (hS0:Sep w ((cP cf ob F A)++R)) (hok:FsC F δ) (hz:SmF F) {c:Int} (hcl:1≤c∧c≤8) {i0:Nat} (hl:Dm F c=some i0) :
  CallsR Tryz.prog 72 #[π cf,ν c] w (fun v w'=>v=.tuple #[ν (i0:Int),ν 0]∧Sep w' ((cP cf ob F A)++R)):=by
 have hS:=Sep.tail_many (xs:=cP cf ob F A) hS0;clear hS0
 have hz0:=hz;obtain ⟨hz1,hz2,hz3⟩:F.N.length≤1000∧F.E.length≤1000∧F.O.length≤1000:=hz
 refine AB Tryz.func72 rfl (N:=21) Tryz.ntmps72 (by show 2≤21;decide) [(0,π cf),(1,ν c)] rfl fun _ h1=>sqr fun _ hK3=>mvs 2 h1 rfl fun _ h6=>wpList_nil<|hK3 _ _<|sq fun _ hK8=>sqr fun _ hK9=>mv h6 rfl fun _ h2=>wpList_nil<|hK9 _ _<|wp_block ?_
 refine DC (fun (i:Nat) a' w'=>Kn 21 [(7,ν (i:Int)),(5,ν 0),(4,ν 0),(0,π cf),(1,ν c)] a'∧Sep w' [Ah cf 65 [π (A.ad 0),.map (some ob)],Av F A,AM KO ob A.C (opG F A),Ch.many R]∧(Dm F c=((List.range 8).drop i).find? fun fd:Nat=>(Az F.O c (fd:Int)).isNone)∧(i≤8)) (fun (i:Nat)=>8-i) 0 ⟨h2.subs rfl,hS,rfl,ω⟩ ?_
 rintro i1 a1 w1 ⟨h3,s1,hfr17,hi818⟩ K1 hK1
 refine sqr fun _ hK2=>bv h3 (z:=.bool (decide ((i1:Int)<8))) rfl (cLt _ _ _ _ rfl) fun _ h4=>wpList_nil<|hK2 _ _<|sq fun _ hK4=>?_
 rcases bC (decide ((i1:Int)<8)) with hc1 | hc1
 ·skip
  have hp1:(i1:Int)<8:=(dT hc1)
  refine wcT h4 rfl hc1<|h4.sk [7,5,4,0,1] rfl fun h5=>wp_skip<|hK4 _ _<|sq fun _ hK5=>wp_block ?_
  refine sqr fun _ hK6=>mvs 2 h5 rfl fun _ h7=>h7.sn [6,7,5,4,0,1] rfl fun h8=>hK6 _ _<|sqr fun _ hK7=>mvs 2 h8 rfl fun _ h9=>fav h9 rfl (BQ _ _) fun _ h10=>ldv h10 s1 0 υ63 rfl rfl rfl rfl fun _ h11=>mvs 2 h11 rfl fun _ h12=>bu h12 (v:=.agg #[ν c,ν (i1:Int)]) rfl (fun w=>κ) fun _ h13=>?_
  rcases bC ((Az F.O c (i1:Int)).isSome) with hc2 | hc2
  ·skip
   obtain ⟨m1,hm1⟩:=Option.isSome_iff_exists.1 hc2;have hml53:=FsC.look_fd hok hm1
   refine sw1 h13 rfl (Ds h13 rfl rfl rfl (IP (F:=F) (A:=A) (s1.get 2 rfl:MapG KO _ _ _ _) ⟨wf_i64 ω ω,wf_i64 ω ω⟩ hm1)) fun _ h14=>bv h14 rfl (IY _ υ62 _ _ _) fun _ h15=>h15.sn [18,6,7,5,4,0,1] rfl fun h16=>hK7 _ _<|wcF h16 rfl rfl<|h16.sk [6,7,5,4,0,1] rfl fun h17=>wp_skip<|hK5 _ _<|wp_region_lit<|bv h17 (z:=ν ((i1+1:Nat):Int)) rfl (Dx _ _ _ ω ω ω) fun _ h18=>h18.sk [20,6,5,4,0,1] rfl fun h19=>?_
   refine mv h19 rfl fun _ h20=>h20.sk [7,6,5,4,0,1] rfl fun h21=>wpList_nil ?_
   exact hK1 (i1+1) _ _ ⟨h21.subs rfl,s1,(Ij hfr17 ω hc2),ω⟩ ω
  ·skip
   have hm2:=AI hc2
   refine sw1 h13 rfl (Ds h13 rfl rfl rfl (Kx (F:=F) (A:=A) (s1.get 2 rfl:MapG KO _ _ _ _) ⟨wf_i64 ω ω,wf_i64 ω ω⟩ hm2)) fun _ h22=>bv h22 rfl (IY _ υ62 _ _ _) fun _ h23=>h23.sn [18,6,7,5,4,0,1] rfl fun h24=>hK7 _ _<|wcT h24 rfl rfl<|h24.sk [6,7,5,4,0,1] rfl fun h25=>sqr fun _ hK10=>mv h25 rfl fun _ h26=>h26.sk [19,6,7,5,0,1] rfl fun h27=>mv h27 rfl fun _ h28=>?_
   refine h28.sk [4,19,6,7,0,1] rfl fun h29=>mv h29 rfl fun _ h30=>h30.sn [5,4,6,7,0,1] rfl fun h31=>hK10 _ _<|wp_ret ?_
   try simp only [Exit.then,Exit.inBlock]
   refine Bn (v:=.tuple #[ν (i1:Int),ν 0]) (FS h31 rfl rfl rfl) h31.defs ?_
   have hq:i1=i0:=Option.some.inj ((II hfr17 ω hc2).symm.trans hl)
   exact ⟨by rw [hq],Sep.tail_un (xs:=[_,_,_]) s1⟩
 ·skip
  have hp2:¬ ((i1:Int)<8):=(dF hc1)
  refine wcF h4 rfl hc1<|h4.sk [7,5,4,0,1] rfl fun h32=>wp_exit ?_
  refine hK8 _ _ ?_
  refine sqr fun _ hK11=>h32.sk [7,5,0,1] rfl fun h33=>mv h33 rfl fun _ h34=>h34.sk [4,7,0,1] rfl fun h35=>mv h35 rfl fun _ h36=>wpList_nil<|hK11 _ _<|wp_ret ?_
  try simp only [Exit.then,Exit.inBlock]
  refine Bn (v:=.tuple #[ν 0,ν 17]) (FS h36 rfl rfl rfl) h36.defs ?_
  exact absurd ((Ii hfr17 ω).symm.trans hl) (by intro q;cases q)
theorem Kd {w:World} {cf ob:Nat} {F:FsM} {A:AdM} {R:List Ch} {δ:Nat→Int} (hS0:Sep w ((cP cf ob F A)++R)) (hok:FsC F δ) (hz:SmF F) {c:Int} (hcl:1≤c∧c≤8) (hl:Dm F c=none) :
  CallsR Tryz.prog 72 #[π cf,ν c] w (fun v w'=>v=.tuple #[ν 0,ν 17]∧Sep w' ((cP cf ob F A)++R)):=by
 have hS:=Sep.tail_many (xs:=cP cf ob F A) hS0;clear hS0
 have hz0:=hz;obtain ⟨hz1,hz2,hz3⟩:F.N.length≤1000∧F.E.length≤1000∧F.O.length≤1000:=hz
 refine AB Tryz.func72 rfl (N:=21) Tryz.ntmps72 (by show 2≤21;decide) [(0,π cf),(1,ν c)] rfl fun _ h1=>sqr fun _ hK3=>mvs 2 h1 rfl fun _ h6=>wpList_nil<|hK3 _ _<|sq fun _ hK8=>sqr fun _ hK9=>mv h6 rfl fun _ h2=>wpList_nil<|hK9 _ _<|wp_block ?_
 refine DC (fun (i:Nat) a' w'=>Kn 21 [(7,ν (i:Int)),(5,ν 0),(4,ν 0),(0,π cf),(1,ν c)] a'∧Sep w' [Ah cf 65 [π (A.ad 0),.map (some ob)],Av F A,AM KO ob A.C (opG F A),Ch.many R]∧(Dm F c=((List.range 8).drop i).find? fun fd:Nat=>(Az F.O c (fd:Int)).isNone)∧(i≤8)) (fun (i:Nat)=>8-i) 0 ⟨h2.subs rfl,hS,rfl,ω⟩ ?_
 rintro i1 a1 w1 ⟨h3,s1,hfr17,hi818⟩ K1 hK1
 refine sqr fun _ hK2=>bv h3 (z:=.bool (decide ((i1:Int)<8))) rfl (cLt _ _ _ _ rfl) fun _ h4=>wpList_nil<|hK2 _ _<|sq fun _ hK4=>?_
 rcases bC (decide ((i1:Int)<8)) with hc1 | hc1
 ·skip
  have hp1:(i1:Int)<8:=(dT hc1)
  refine wcT h4 rfl hc1<|h4.sk [7,5,4,0,1] rfl fun h5=>wp_skip<|hK4 _ _<|sq fun _ hK5=>wp_block ?_
  refine sqr fun _ hK6=>mvs 2 h5 rfl fun _ h7=>h7.sn [6,7,5,4,0,1] rfl fun h8=>hK6 _ _<|sqr fun _ hK7=>mvs 2 h8 rfl fun _ h9=>fav h9 rfl (BQ _ _) fun _ h10=>ldv h10 s1 0 υ63 rfl rfl rfl rfl fun _ h11=>mvs 2 h11 rfl fun _ h12=>bu h12 (v:=.agg #[ν c,ν (i1:Int)]) rfl (fun w=>κ) fun _ h13=>?_
  rcases bC ((Az F.O c (i1:Int)).isSome) with hc2 | hc2
  ·skip
   obtain ⟨m1,hm1⟩:=Option.isSome_iff_exists.1 hc2;have hml53:=FsC.look_fd hok hm1
   refine sw1 h13 rfl (Ds h13 rfl rfl rfl (IP (F:=F) (A:=A) (s1.get 2 rfl:MapG KO _ _ _ _) ⟨wf_i64 ω ω,wf_i64 ω ω⟩ hm1)) fun _ h14=>bv h14 rfl (IY _ υ62 _ _ _) fun _ h15=>h15.sn [18,6,7,5,4,0,1] rfl fun h16=>hK7 _ _<|wcF h16 rfl rfl<|h16.sk [6,7,5,4,0,1] rfl fun h17=>wp_skip<|hK5 _ _<|wp_region_lit<|bv h17 (z:=ν ((i1+1:Nat):Int)) rfl (Dx _ _ _ ω ω ω) fun _ h18=>h18.sk [20,6,5,4,0,1] rfl fun h19=>?_
   refine mv h19 rfl fun _ h20=>h20.sk [7,6,5,4,0,1] rfl fun h21=>wpList_nil ?_
   exact hK1 (i1+1) _ _ ⟨h21.subs rfl,s1,(Ij hfr17 ω hc2),ω⟩ ω
  ·skip
   have hm2:=AI hc2
   refine sw1 h13 rfl (Ds h13 rfl rfl rfl (Kx (F:=F) (A:=A) (s1.get 2 rfl:MapG KO _ _ _ _) ⟨wf_i64 ω ω,wf_i64 ω ω⟩ hm2)) fun _ h22=>bv h22 rfl (IY _ υ62 _ _ _) fun _ h23=>h23.sn [18,6,7,5,4,0,1] rfl fun h24=>hK7 _ _<|wcT h24 rfl rfl<|h24.sk [6,7,5,4,0,1] rfl fun h25=>sqr fun _ hK10=>mv h25 rfl fun _ h26=>h26.sk [19,6,7,5,0,1] rfl fun h27=>mv h27 rfl fun _ h28=>?_
   refine h28.sk [4,19,6,7,0,1] rfl fun h29=>mv h29 rfl fun _ h30=>h30.sn [5,4,6,7,0,1] rfl fun h31=>hK10 _ _<|wp_ret ?_
   try simp only [Exit.then,Exit.inBlock]
   refine Bn (v:=.tuple #[ν (i1:Int),ν 0]) (FS h31 rfl rfl rfl) h31.defs ?_
   exact absurd ((II hfr17 ω hc2).symm.trans hl) (by intro q;cases q)
 ·skip
  have hp2:¬ ((i1:Int)<8):=(dF hc1)
  refine wcF h4 rfl hc1<|h4.sk [7,5,4,0,1] rfl fun h32=>wp_exit ?_
  refine hK8 _ _ ?_
  refine sqr fun _ hK11=>h32.sk [7,5,0,1] rfl fun h33=>mv h33 rfl fun _ h34=>h34.sk [4,7,0,1] rfl fun h35=>mv h35 rfl fun _ h36=>wpList_nil<|hK11 _ _<|wp_ret ?_
  try simp only [Exit.then,Exit.inBlock]
  refine Bn (v:=.tuple #[ν 0,ν 17]) (FS h36 rfl rfl rfl) h36.defs ?_
  exact ⟨rfl,Sep.tail_un (xs:=[_,_,_]) s1⟩
theorem Hb {w:World} {R:List Ch} {X:List UInt8} (hS0:Sep w R) (hX:X.length≤1000) {L:List ByteArray} (hp:Ag X=some L) (hL:1≤L.length) :
  CallsR Tryz.prog 85 #[σ X] w fun v w'=>∃ pa pc,v=.tuple #[.slice pa (L.length-1) (L.length-1),.string (L.getD (L.length-1) Bv),ν 0]∧Sep w' (Ak 0 9 1 pa L.length pc (L.flatMap sE)::R):=by
 have hS:Sep w [Ch.many R]:=Sep.tail_many (xs:=[]) hS0;clear hS0;have hL6:=Dj hp
 refine AB Tryz.func85 rfl (N:=31) Tryz.ntmps85 (by show 1≤31;decide) [(0,σ X)] rfl fun _ h1=>sqr fun _ hK3=>mvs 3 h1 rfl fun _ h8=>wpList_nil<|hK3 _ _<|sqr fun _ hK1=>mv h8 rfl fun _ h2=>cl h2 rfl Cd (Fk (X:=X) hS ω hp) fun _ v1 w2 r1 h3=>?_
 obtain ⟨pax13,pcx14,rfl,s1⟩:=r1
 refine mvs 5 h3 rfl fun _ h4=>h4.sn [6,5,4,3,2,0] rfl fun h5=>hK1 _ _<|sq fun _ hK2=>sqr fun _ hK4=>mv h5 rfl fun _ h6=>bv h6 rfl (cNe _ _ _ _ rfl) fun _ h7=>mv h7 rfl fun _ h9=>sv h9 (wF h9 (E:=false) rfl rfl rfl) rfl rfl rfl (Ap h9 rfl rfl) fun _ h10=>sv h10 (wF h10 (E:=false) rfl rfl rfl) rfl rfl rfl (CR h10 rfl rfl υ33) fun _ h11=>sv h11 (wF h11 (E:=false) rfl rfl rfl) rfl rfl rfl (BG h11 rfl rfl rfl (cEq _ _ _ _ (decide_eq_false ω))) fun _ h12=>?_
 refine sv1 h12 rfl (Ed h12 rfl rfl rfl) fun _ h13=>h13.sn [19,6,5,4,3,2,0] rfl fun h14=>hK4 _ _<|wcF h14 rfl rfl<|h14.sk [6,5,4,3,2,0] rfl fun h15=>wp_skip<|hK2 _ _<|sqr fun _ hK5=>mv h15 rfl fun _ h16=>sv1 h16 rfl (CR h16 rfl rfl υ33) fun _ h17=>bv h17 (z:=ν ((L.length-1:Nat):Int)) rfl (Ib _ _ _ ω ω ω) fun _ h18=>?_
 refine mv h18 rfl fun _ h19=>h19.sn [7,6,5,4,3,2,0] rfl fun h20=>hK5 _ _<|sq fun _ hK6=>?_
 have s2:=s1.drew
 refine wp_region_held_drew (S:=fun w'=>Sep w' [Ak 0 9 1 pax13 L.length pcx14 (L.flatMap sE),Ch.many R]) κ s2 (fun hq1=>?_)
 refine tv1 hq1 h20 0 rfl rfl (fun w1 _=>(Ap h20 rfl rfl) w1) fun _ h21=>?_
 refine tv1 hq1 h21 1 rfl rfl (fun w1 _=>(Ap h21 rfl rfl) w1) fun _ h22=>?_
 refine tv1 hq1 h22 2 rfl rfl (fun w1 _=>(Ap h22 rfl rfl) w1) fun _ h23=>?_
 have hcap70:=Om (s2.get 0 rfl:Own _ _ _ _ _ _ _ _)
 refine tv1 hq1 h23 3 rfl rfl (fun w1 _=>(TB h23 rfl rfl rfl rfl (fun w=>Ue 33 9 υ33 κ pax13 L.length pcx14 (b:=L.length-1) ω w)) w1) fun _ h24=>?_
 refine tv1 hq1 h24 4 rfl rfl (fun w1 _=>(Ap h24 rfl rfl) w1) fun _ h25=>?_
 refine tv1 hq1 h25 5 rfl rfl (fun w1 _=>(Ap h25 rfl rfl) w1) fun _ h26=>?_
 obtain ⟨q77,hq2⟩:=AY (s2.get 0 rfl:Own _ _ _ _ _ _ _ _)
 refine tv1 hq1 h26 6 rfl rfl (v:=.pointer (some ⟨q77,L.length-1,none⟩)) (fun w1 _=>(Aw h26 rfl rfl rfl (fun w=>ixO υ33 κ (sz:=1) (hq2 ω) (j:=L.length-1) rfl ω ω w)) w1) fun _ h27=>?_
 refine tv1 hq1 h27 7 rfl rfl (fun w1 hSw=>(rld h27 rfl rfl (BO Ej υ9 rfl (hSw.get 0 rfl:Own _ _ _ _ _ _ _ _) (hq2 ω) Bv (j:=L.length-1) (f:=0) ω (by decide) ω rfl))) fun _ h28=>?_
 refine h28.sk [30,29,28,27,26,25,24,23,7,6,5,4,3,0] rfl fun h29=>?_
 refine tv1 hq1 h29 8 rfl rfl (fun w1 _=>(BJ h29 rfl rfl) w1) fun _ h30=>?_
 refine h30.sk [2,30,29,28,27,26,25,24,23,7,6,5,4,0] rfl fun h31=>?_
 refine tv1 hq1 h31 9 rfl rfl (fun w1 _=>(BJ h31 rfl rfl) w1) fun _ h32=>?_
 refine h32.sk [3,2,30,29,28,27,26,25,24,23,7,6,5,0] rfl fun h33=>?_
 refine tv1 hq1 h33 10 rfl rfl (fun w1 _=>(BJ h33 rfl rfl) w1) fun _ h34=>?_
 refine h34.sk [4,3,2,7,6,5,0] rfl fun h35=>?_
 refine wpAnyH_done κ ?_ _
 refine hK6 _ _ ?_
 refine wp_ret ?_
 try simp only [Exit.then,Exit.inBlock]
 refine Bn (v:=.tuple #[.slice pax13 (L.length-1) (L.length-1),.string (L.getD (L.length-1) Bv),ν 0]) (Hg h35 rfl rfl rfl rfl) h35.defs ?_
 exact ⟨pax13,pcx14,rfl,Sep.tail_un (xs:=[_]) s2⟩
theorem EM {w:World} {R:List Ch} {X:List UInt8} (hS:Sep w R) (hX:X.length≤1000) (ho:Ag X=none∨Ag X=some []) :
  CallsR Tryz.prog 85 #[σ X] w fun v w'=>v=.tuple #[.slice none 0 0,σ [],ν 15]∧Sep w' R:=
 (MH X hX ho w).mono fun e w' ⟨e1,hb⟩=>⟨_,e1,rfl,hS.mono hb⟩
theorem Jq {w:World} {cf ob:Nat} {F:FsM} {A:AdM} {R:List Ch} {δ:Nat→Int} {L:List ByteArray} {a:Option Addr} {n c c2 k0:Nat} {e0:Int} (hS0:Sep w (Ak 0 9 1 a L.length c (L.flatMap sE)::(cP cf ob F A)++R)) (hok:FsC F δ) (hz:SmF F) (hall:L.all mayN=true) (hn:n≤L.length) (hl:L.length≤1000) (hw0:Ao F 0 (L.take n)=(0,k0)) :
  CallsR Tryz.prog 84 #[π cf,.slice a n c2] w (fun v w'=>v=.tuple #[π (A.ad k0),ν 0]∧Sep w' (Ak 0 9 1 a L.length c (L.flatMap sE)::(cP cf ob F A)++R)):=by
 have hS:Sep w [Ak 0 9 1 a L.length c (L.flatMap sE),Ah cf 65 [π (A.ad 0),.map (some ob)],Av F A,AM KO ob A.C (opG F A),Ch.many R]:=Sep.tail_many (xs:=[_,_,_,_]) hS0;clear hS0
 have hz0:=hz;obtain ⟨hz1,hz2,hz3⟩:F.N.length≤1000∧F.E.length≤1000∧F.O.length≤1000:=hz
 refine AB Tryz.func84 rfl (N:=34) Tryz.ntmps84 (by show 2≤34;decide) [(0,π cf),(1,.slice a n c2)] rfl fun _ h1=>sqr fun _ hK3=>mvs 2 h1 rfl fun _ h6=>wpList_nil<|hK3 _ _<|sqr fun _ hK8=>mvs 2 h6 rfl fun _ h2=>fav h2 rfl (DD _ _) fun _ h3=>ldv h3 hS 1 υ62 rfl rfl rfl rfl fun _ h4=>mv h4 rfl fun _ h5=>h5.sk [6,5,4,0,1] rfl fun h7=>?_
 refine wpList_nil<|hK8 _ _<|sq fun _ hK1=>sqr fun _ hK2=>mv h7 rfl fun _ h8=>sv1 h8 rfl (CR h8 rfl rfl υ33) fun _ h9=>mv h9 rfl fun _ h10=>wpList_nil<|hK2 _ _<|wp_block ?_
 refine Hj (fun (i:Nat) (k:Nat) a' w'=>Kn 34 [(15,ν (i:Int)),(14,ν (n:Int)),(13,.slice a n c2),(6,π (A.ad k)),(5,ν 0),(4,.pointer none),(0,π cf),(1,.slice a n c2)] a'∧Sep w' [Ak 0 9 1 a L.length c (L.flatMap sE),Ah cf 65 [π (A.ad 0),.map (some ob)],Av F A,AM KO ob A.C (opG F A),Ch.many R]∧(Ao F 0 (L.take n)=Ao F k ((L.take n).drop i))∧(k<F.N.length)) (fun (i:Nat) (k:Nat)=>n-i) 0 0 ⟨h10.subs rfl,hS,rfl,hok.n0.1⟩ ?_
 rintro i1 k1 a1 w1 ⟨h11,s1,hw33,hk34⟩ K1 hK4
 refine sqr fun _ hK5=>bv h11 (z:=.bool (decide ((i1:Int)<(n:Int)))) rfl (cLt _ _ _ _ rfl) fun _ h12=>wpList_nil<|hK5 _ _<|sq fun _ hK6=>?_
 rcases bC (decide ((i1:Int)<(n:Int))) with hc1 | hc1
 ·skip
  have hp1:(i1:Int)<(n:Int):=(dT hc1)
  refine wcT h12 rfl hc1<|h12.sk [15,14,13,6,5,4,0,1] rfl fun h13=>wp_skip<|hK6 _ _<|sq fun _ hK7=>wp_block ?_
  refine sq fun _ hK9=>wp_region_lit ?_
  obtain ⟨q46,hq1⟩:=AY (s1.get 0 rfl:Own _ _ _ _ _ _ _ _)
  refine sv1 h13 rfl (v:=.pointer (some ⟨q46,i1,none⟩)) (Aw h13 rfl rfl rfl (fun w=>ixO υ33 κ (sz:=1) (hq1 ω) (j:=i1) rfl ω ω w)) fun _ h14=>sw1 h14 rfl (v:=.string (L.getD i1 Bv)) (rld h14 rfl rfl (BO Ej υ9 rfl (s1.get 0 rfl:Own _ _ _ _ _ _ _ _) (hq1 ω) Bv (j:=i1) (f:=0) ω (by decide) ω rfl)) fun _ h15=>mv h15 rfl fun _ h16=>h16.sn [8,15,14,13,6,5,4,0,1] rfl fun h17=>hK9 _ _<|sq fun _ hK10=>sqr fun _ hK11=>mvs 2 h17 rfl fun _ h18=>sv1 h18 rfl (v:=π (A.ad k1)) (rfa h18 rfl rfl (fun w=>Ay (A.ad k1) 0 w)) fun _ h19=>sw1 h19 rfl (v:=ν (AP (F.dir k1))) (rld h19 rfl rfl (NdP.c0 (F:=FsM.nE F) (A:=AdM.nC A) (k:=k1) (s1.get 2 rfl:NdP _ _ _) (show k1<F.N.length from ω) υ3 rfl)) fun _ h20=>bv h20 (z:=.bool (!(F.dir k1))) rfl (cNe _ _ _ _ (Je _)) fun _ h21=>?_
  refine h21.sn [23,8,15,14,13,6,5,4,0,1] rfl fun h22=>hK11 _ _ ?_
  rcases bC (F.dir k1) with hc2 | hc2
  ·skip
   refine wcF h22 rfl (Bq hc2)<|h22.sk [8,15,14,13,6,5,4,0,1] rfl fun h23=>wp_skip<|hK10 _ _<|sqr fun _ hK12=>mvs 2 h23 rfl fun _ h24=>sv1 h24 rfl (rfa h24 rfl rfl (fun w=>AF (A.ad k1) 0 w)) fun _ h25=>sw1 h25 rfl (rld h25 rfl rfl (NdP.c3 (F:=FsM.nE F) (A:=AdM.nC A) (k:=k1) (s1.get 2 rfl:NdP _ _ _) (show k1<F.N.length from ω) hc2 υ95 rfl)) fun _ h26=>mv h26 rfl fun _ h27=>?_
   rcases bC ((Ai F.E k1 (L.getD i1 Bv)).isSome) with hc3 | hc3
   ·skip
    obtain ⟨m1,hm1⟩:=Option.isSome_iff_exists.1 hc3;have hml86:=FsC.look_lt hok hm1
    refine sw1 h27 rfl (Ds h27 rfl rfl rfl (NdP.lookY (F:=FsM.nE F) (A:=AdM.nC A) (k:=k1) (s1.get 2 rfl:NdP _ _ _) (show k1<F.N.length from ω) hc2 (JH hall ω) hm1)) fun _ h28=>h28.sk [29,28,27,26,25,24,8,15,14,13,5,4,0,1] rfl fun h29=>mv h29 rfl fun _ h30=>h30.sn [6,8,15,14,13,5,4,0,1] rfl fun h31=>hK12 _ _<|sqr fun _ hK13=>mv h31 rfl fun _ h32=>bv h32 rfl (IY _ υ62 _ _ _) fun _ h33=>h33.sn [31,6,8,15,14,13,5,4,0,1] rfl fun h34=>hK13 _ _ ?_
    refine wcF h34 rfl rfl<|h34.sk [6,8,15,14,13,5,4,0,1] rfl fun h35=>wp_skip<|hK7 _ _<|wp_region_lit<|bv h35 (z:=ν ((i1+1:Nat):Int)) rfl (Dx _ _ _ ω ω ω) fun _ h36=>h36.sk [32,6,8,14,13,5,4,0,1] rfl fun h37=>mv h37 rfl fun _ h38=>h38.sk [15,6,8,14,13,5,4,0,1] rfl fun h39=>wpList_nil ?_
    exact hK4 (i1+1) m1 _ _ ⟨h39.subs rfl,s1,(hw33.trans (Iv ω (L:=L) hc2 hm1)),(hok.look_lt hm1).1⟩ ω
   ·skip
    have hm2:=AI hc3
    refine sw1 h27 rfl (Ds h27 rfl rfl rfl (NdP.lookN (F:=FsM.nE F) (A:=AdM.nC A) (k:=k1) (s1.get 2 rfl:NdP _ _ _) (show k1<F.N.length from ω) hc2 (JH hall ω) hm2)) fun _ h40=>h40.sk [29,28,27,26,25,24,8,15,14,13,5,4,0,1] rfl fun h41=>mv h41 rfl fun _ h42=>h42.sn [6,8,15,14,13,5,4,0,1] rfl fun h43=>hK12 _ _<|sqr fun _ hK14=>mv h43 rfl fun _ h44=>bv h44 rfl (IY _ υ62 _ _ _) fun _ h45=>h45.sn [31,6,8,15,14,13,5,4,0,1] rfl fun h46=>hK14 _ _ ?_
    refine wcT h46 rfl rfl<|h46.sk [6,8,15,14,13,5,4,0,1] rfl fun h47=>sqr fun _ hK15=>h47.sk [6,8,15,14,13,5,0,1] rfl fun h48=>mv h48 rfl fun _ h49=>h49.sk [4,6,8,15,14,13,0,1] rfl fun h50=>mv h50 rfl fun _ h51=>wpList_nil<|hK15 _ _<|wp_ret ?_
    try simp only [Exit.then,Exit.inBlock]
    refine Bn (v:=.tuple #[.pointer none,ν 10]) (FS h51 rfl rfl rfl) h51.defs ?_
    have hq:=hw0.symm.trans (hw33.trans (Iu ω (L:=L) hc2 hm2))
    exact absurd (Prod.mk.inj hq).1 (by decide)
  ·skip
   refine wcT h22 rfl (BC hc2)<|h22.sk [8,15,14,13,6,5,4,0,1] rfl fun h52=>sqr fun _ hK16=>h52.sk [8,15,14,13,6,5,0,1] rfl fun h53=>mv h53 rfl fun _ h54=>h54.sk [4,8,15,14,13,6,0,1] rfl fun h55=>mv h55 rfl fun _ h56=>wpList_nil<|hK16 _ _<|wp_ret ?_
   try simp only [Exit.then,Exit.inBlock]
   refine Bn (v:=.tuple #[.pointer none,ν 12]) (FS h56 rfl rfl rfl) h56.defs ?_
   have hq:=hw0.symm.trans (hw33.trans (Hi ω (L:=L) hc2))
   exact absurd (Prod.mk.inj hq).1 (by decide)
 ·skip
  have hp2:¬ ((i1:Int)<(n:Int)):=(dF hc1)
  refine wcF h12 rfl hc1<|h12.sk [15,14,13,6,5,4,0,1] rfl fun h57=>wp_exit ?_
  refine hK1 _ _ ?_
  refine sqr fun _ hK17=>mv h57 rfl fun _ h58=>h58.sk [33,15,14,13,6,5,0,1] rfl fun h59=>mv h59 rfl fun _ h60=>h60.sk [4,33,15,14,13,6,0,1] rfl fun h61=>mv h61 rfl fun _ h62=>h62.sn [5,4,15,14,13,6,0,1] rfl fun h63=>hK17 _ _<|wp_ret ?_
  try simp only [Exit.then,Exit.inBlock]
  refine Bn (v:=.tuple #[π (A.ad k1),ν 0]) (FS h63 rfl rfl rfl) h63.defs ?_
  have hq:=hw0.symm.trans (hw33.trans (Jp ω))
  exact ⟨by rw [(Prod.mk.inj hq).2],Sep.tail_un (xs:=[_,_,_,_]) s1⟩
theorem KU {w:World} {cf ob:Nat} {F:FsM} {A:AdM} {R:List Ch} {δ:Nat→Int} {L:List ByteArray} {a:Option Addr} {n c c2 k0:Nat} {e0:Int} (hS0:Sep w (Ak 0 9 1 a L.length c (L.flatMap sE)::(cP cf ob F A)++R)) (hok:FsC F δ) (hz:SmF F) (hall:L.all mayN=true) (hn:n≤L.length) (hl:L.length≤1000) (hw0:Ao F 0 (L.take n)=(e0,0)) (he0:e0≠0) :
  CallsR Tryz.prog 84 #[π cf,.slice a n c2] w (fun v w'=>v=.tuple #[.pointer none,ν e0]∧Sep w' (Ak 0 9 1 a L.length c (L.flatMap sE)::(cP cf ob F A)++R)):=by
 have hS:Sep w [Ak 0 9 1 a L.length c (L.flatMap sE),Ah cf 65 [π (A.ad 0),.map (some ob)],Av F A,AM KO ob A.C (opG F A),Ch.many R]:=Sep.tail_many (xs:=[_,_,_,_]) hS0;clear hS0
 have hz0:=hz;obtain ⟨hz1,hz2,hz3⟩:F.N.length≤1000∧F.E.length≤1000∧F.O.length≤1000:=hz
 refine AB Tryz.func84 rfl (N:=34) Tryz.ntmps84 (by show 2≤34;decide) [(0,π cf),(1,.slice a n c2)] rfl fun _ h1=>sqr fun _ hK3=>mvs 2 h1 rfl fun _ h6=>wpList_nil<|hK3 _ _<|sqr fun _ hK8=>mvs 2 h6 rfl fun _ h2=>fav h2 rfl (DD _ _) fun _ h3=>ldv h3 hS 1 υ62 rfl rfl rfl rfl fun _ h4=>mv h4 rfl fun _ h5=>h5.sk [6,5,4,0,1] rfl fun h7=>?_
 refine wpList_nil<|hK8 _ _<|sq fun _ hK1=>sqr fun _ hK2=>mv h7 rfl fun _ h8=>sv1 h8 rfl (CR h8 rfl rfl υ33) fun _ h9=>mv h9 rfl fun _ h10=>wpList_nil<|hK2 _ _<|wp_block ?_
 refine Hj (fun (i:Nat) (k:Nat) a' w'=>Kn 34 [(15,ν (i:Int)),(14,ν (n:Int)),(13,.slice a n c2),(6,π (A.ad k)),(5,ν 0),(4,.pointer none),(0,π cf),(1,.slice a n c2)] a'∧Sep w' [Ak 0 9 1 a L.length c (L.flatMap sE),Ah cf 65 [π (A.ad 0),.map (some ob)],Av F A,AM KO ob A.C (opG F A),Ch.many R]∧(Ao F 0 (L.take n)=Ao F k ((L.take n).drop i))∧(k<F.N.length)) (fun (i:Nat) (k:Nat)=>n-i) 0 0 ⟨h10.subs rfl,hS,rfl,hok.n0.1⟩ ?_
 rintro i1 k1 a1 w1 ⟨h11,s1,hw33,hk34⟩ K1 hK4
 refine sqr fun _ hK5=>bv h11 (z:=.bool (decide ((i1:Int)<(n:Int)))) rfl (cLt _ _ _ _ rfl) fun _ h12=>wpList_nil<|hK5 _ _<|sq fun _ hK6=>?_
 rcases bC (decide ((i1:Int)<(n:Int))) with hc1 | hc1
 ·skip
  have hp1:(i1:Int)<(n:Int):=(dT hc1)
  refine wcT h12 rfl hc1<|h12.sk [15,14,13,6,5,4,0,1] rfl fun h13=>wp_skip<|hK6 _ _<|sq fun _ hK7=>wp_block ?_
  refine sq fun _ hK9=>wp_region_lit ?_
  obtain ⟨q46,hq1⟩:=AY (s1.get 0 rfl:Own _ _ _ _ _ _ _ _)
  refine sv1 h13 rfl (v:=.pointer (some ⟨q46,i1,none⟩)) (Aw h13 rfl rfl rfl (fun w=>ixO υ33 κ (sz:=1) (hq1 ω) (j:=i1) rfl ω ω w)) fun _ h14=>sw1 h14 rfl (v:=.string (L.getD i1 Bv)) (rld h14 rfl rfl (BO Ej υ9 rfl (s1.get 0 rfl:Own _ _ _ _ _ _ _ _) (hq1 ω) Bv (j:=i1) (f:=0) ω (by decide) ω rfl)) fun _ h15=>mv h15 rfl fun _ h16=>h16.sn [8,15,14,13,6,5,4,0,1] rfl fun h17=>hK9 _ _<|sq fun _ hK10=>sqr fun _ hK11=>mvs 2 h17 rfl fun _ h18=>sv1 h18 rfl (v:=π (A.ad k1)) (rfa h18 rfl rfl (fun w=>Ay (A.ad k1) 0 w)) fun _ h19=>sw1 h19 rfl (v:=ν (AP (F.dir k1))) (rld h19 rfl rfl (NdP.c0 (F:=FsM.nE F) (A:=AdM.nC A) (k:=k1) (s1.get 2 rfl:NdP _ _ _) (show k1<F.N.length from ω) υ3 rfl)) fun _ h20=>bv h20 (z:=.bool (!(F.dir k1))) rfl (cNe _ _ _ _ (Je _)) fun _ h21=>?_
  refine h21.sn [23,8,15,14,13,6,5,4,0,1] rfl fun h22=>hK11 _ _ ?_
  rcases bC (F.dir k1) with hc2 | hc2
  ·skip
   refine wcF h22 rfl (Bq hc2)<|h22.sk [8,15,14,13,6,5,4,0,1] rfl fun h23=>wp_skip<|hK10 _ _<|sqr fun _ hK12=>mvs 2 h23 rfl fun _ h24=>sv1 h24 rfl (rfa h24 rfl rfl (fun w=>AF (A.ad k1) 0 w)) fun _ h25=>sw1 h25 rfl (rld h25 rfl rfl (NdP.c3 (F:=FsM.nE F) (A:=AdM.nC A) (k:=k1) (s1.get 2 rfl:NdP _ _ _) (show k1<F.N.length from ω) hc2 υ95 rfl)) fun _ h26=>mv h26 rfl fun _ h27=>?_
   rcases bC ((Ai F.E k1 (L.getD i1 Bv)).isSome) with hc3 | hc3
   ·skip
    obtain ⟨m1,hm1⟩:=Option.isSome_iff_exists.1 hc3;have hml86:=FsC.look_lt hok hm1
    refine sw1 h27 rfl (Ds h27 rfl rfl rfl (NdP.lookY (F:=FsM.nE F) (A:=AdM.nC A) (k:=k1) (s1.get 2 rfl:NdP _ _ _) (show k1<F.N.length from ω) hc2 (JH hall ω) hm1)) fun _ h28=>h28.sk [29,28,27,26,25,24,8,15,14,13,5,4,0,1] rfl fun h29=>mv h29 rfl fun _ h30=>h30.sn [6,8,15,14,13,5,4,0,1] rfl fun h31=>hK12 _ _<|sqr fun _ hK13=>mv h31 rfl fun _ h32=>bv h32 rfl (IY _ υ62 _ _ _) fun _ h33=>h33.sn [31,6,8,15,14,13,5,4,0,1] rfl fun h34=>hK13 _ _ ?_
    refine wcF h34 rfl rfl<|h34.sk [6,8,15,14,13,5,4,0,1] rfl fun h35=>wp_skip<|hK7 _ _<|wp_region_lit<|bv h35 (z:=ν ((i1+1:Nat):Int)) rfl (Dx _ _ _ ω ω ω) fun _ h36=>h36.sk [32,6,8,14,13,5,4,0,1] rfl fun h37=>mv h37 rfl fun _ h38=>h38.sk [15,6,8,14,13,5,4,0,1] rfl fun h39=>wpList_nil ?_
    exact hK4 (i1+1) m1 _ _ ⟨h39.subs rfl,s1,(hw33.trans (Iv ω (L:=L) hc2 hm1)),(hok.look_lt hm1).1⟩ ω
   ·skip
    have hm2:=AI hc3
    refine sw1 h27 rfl (Ds h27 rfl rfl rfl (NdP.lookN (F:=FsM.nE F) (A:=AdM.nC A) (k:=k1) (s1.get 2 rfl:NdP _ _ _) (show k1<F.N.length from ω) hc2 (JH hall ω) hm2)) fun _ h40=>h40.sk [29,28,27,26,25,24,8,15,14,13,5,4,0,1] rfl fun h41=>mv h41 rfl fun _ h42=>h42.sn [6,8,15,14,13,5,4,0,1] rfl fun h43=>hK12 _ _<|sqr fun _ hK14=>mv h43 rfl fun _ h44=>bv h44 rfl (IY _ υ62 _ _ _) fun _ h45=>h45.sn [31,6,8,15,14,13,5,4,0,1] rfl fun h46=>hK14 _ _ ?_
    refine wcT h46 rfl rfl<|h46.sk [6,8,15,14,13,5,4,0,1] rfl fun h47=>sqr fun _ hK15=>h47.sk [6,8,15,14,13,5,0,1] rfl fun h48=>mv h48 rfl fun _ h49=>h49.sk [4,6,8,15,14,13,0,1] rfl fun h50=>mv h50 rfl fun _ h51=>wpList_nil<|hK15 _ _<|wp_ret ?_
    try simp only [Exit.then,Exit.inBlock]
    refine Bn (v:=.tuple #[.pointer none,ν 10]) (FS h51 rfl rfl rfl) h51.defs ?_
    have hq:=hw0.symm.trans (hw33.trans (Iu ω (L:=L) hc2 hm2))
    exact ⟨by rw [(Prod.mk.inj hq).1],Sep.tail_un (xs:=[_,_,_,_]) s1⟩
  ·skip
   refine wcT h22 rfl (BC hc2)<|h22.sk [8,15,14,13,6,5,4,0,1] rfl fun h52=>sqr fun _ hK16=>h52.sk [8,15,14,13,6,5,0,1] rfl fun h53=>mv h53 rfl fun _ h54=>h54.sk [4,8,15,14,13,6,0,1] rfl fun h55=>mv h55 rfl fun _ h56=>wpList_nil<|hK16 _ _<|wp_ret ?_
   try simp only [Exit.then,Exit.inBlock]
   refine Bn (v:=.tuple #[.pointer none,ν 12]) (FS h56 rfl rfl rfl) h56.defs ?_
   have hq:=hw0.symm.trans (hw33.trans (Hi ω (L:=L) hc2))
   exact ⟨by rw [(Prod.mk.inj hq).1],Sep.tail_un (xs:=[_,_,_,_]) s1⟩
 ·skip
  have hp2:¬ ((i1:Int)<(n:Int)):=(dF hc1)
  refine wcF h12 rfl hc1<|h12.sk [15,14,13,6,5,4,0,1] rfl fun h57=>wp_exit ?_
  refine hK1 _ _ ?_
  refine sqr fun _ hK17=>mv h57 rfl fun _ h58=>h58.sk [33,15,14,13,6,5,0,1] rfl fun h59=>mv h59 rfl fun _ h60=>h60.sk [4,33,15,14,13,6,0,1] rfl fun h61=>mv h61 rfl fun _ h62=>h62.sn [5,4,15,14,13,6,0,1] rfl fun h63=>hK17 _ _<|wp_ret ?_
  try simp only [Exit.then,Exit.inBlock]
  refine Bn (v:=.tuple #[π (A.ad k1),ν 0]) (FS h63 rfl rfl rfl) h63.defs ?_
  have hq:=hw0.symm.trans (hw33.trans (Jp ω))
  exact absurd (Prod.mk.inj hq).1 he0
theorem Es {w:World} {cf ob:Nat} {F:FsM} {A:AdM} {R:List Ch} {δ:Nat→Int} (hS0:Sep w ((cP cf ob F A)++R)) (hok:FsC F δ) (hz:SmF F) {X:List UInt8} (hX:X.length≤1000) (hf:(Ac F X).1=0) :
  CallsR Tryz.prog 69 #[π cf,σ X] w (fun v w'=>v=.tuple #[π (A.ad (Ac F X).2),ν 0]∧Sep w' ((cP cf ob F A)++R)):=by
 have hS:=Sep.tail_many (xs:=cP cf ob F A) hS0;clear hS0
 have hz0:=hz;obtain ⟨hz1,hz2,hz3⟩:F.N.length≤1000∧F.E.length≤1000∧F.O.length≤1000:=hz
 refine AB Tryz.func69 rfl (N:=21) Tryz.ntmps69 (by show 2≤21;decide) [(0,π cf),(1,σ X)] rfl fun _ h1=>sqr fun _ hK3=>mvs 2 h1 rfl fun _ h6=>wpList_nil<|hK3 _ _<|sqr fun _ hK8=>mv h6 rfl fun _ h9=>?_
 rcases bC ((Ag X).isSome) with hc1 | hc1
 ·skip
  obtain ⟨L13,hL14⟩:=Option.isSome_iff_exists.1 hc1
  have h2:=Dj hL14
  have hwk:Ao F 0 (L13.take L13.length)=(0,(Ac F X).2):=by rw [List.take_length,← CV hL14,← hf]
  refine cl h9 rfl Cd (Fk (X:=X) hS ω hL14) fun _ v1 w1 r1 h3=>?_
  obtain ⟨pax16,pcx17,rfl,s1⟩:=r1
  refine mvs 5 h3 rfl fun _ h4=>h4.sn [7,6,5,4,0,1] rfl fun h5=>hK8 _ _<|sq fun _ hK1=>sqr fun _ hK2=>mv h5 rfl fun _ h7=>bv h7 rfl (cNe _ _ _ _ rfl) fun _ h8=>h8.sn [14,7,6,5,4,0,1] rfl fun h10=>hK2 _ _<|wcF h10 rfl rfl<|h10.sk [7,6,5,4,0,1] rfl fun h11=>?_
  refine wp_skip<|hK1 _ _<|sqr fun _ hK4=>mvs 2 h11 rfl fun _ h12=>cl h12 rfl CU (Jq (e0:=0) (cf:=cf) (F:=F) s1 hok hz0 (Fx hL14) ω ω hwk) fun _ v2 w2 r2 h13=>?_
  obtain ⟨rfl,s2⟩:=r2
  refine mvs 2 h13 rfl fun _ h14=>h14.sk [20,19,18,17,16,7,6,5,0,1] rfl fun h15=>mv h15 rfl fun _ h16=>h16.sk [4,20,19,18,17,16,7,6,0,1] rfl fun h17=>mv h17 rfl fun _ h18=>h18.sn [5,4,7,6,0,1] rfl fun h19=>hK4 _ _<|wp_ret ?_
  try simp only [Exit.then,Exit.inBlock]
  refine Bn (v:=.tuple #[π (A.ad (Ac F X).2),ν 0]) (FS h19 rfl rfl rfl) h19.defs ?_
  exact ⟨rfl,Sep.tail_un (xs:=[_,_,_]) (s2.pk [1,2,3,4] rfl)⟩
 ·skip
  refine cl h9 rfl Cd (Hc (X:=X) hS ω (AI hc1)) fun _ v3 w3 r3 h20=>?_
  obtain ⟨pax68,pcx69,rfl,s3⟩:=r3
  refine mvs 5 h20 rfl fun _ h21=>h21.sn [7,6,5,4,0,1] rfl fun h22=>hK8 _ _<|sq fun _ hK5=>sqr fun _ hK6=>mv h22 rfl fun _ h23=>bv h23 rfl (cNe _ _ _ _ rfl) fun _ h24=>h24.sn [14,7,6,5,4,0,1] rfl fun h25=>hK6 _ _<|wcT h25 rfl rfl<|h25.sk [7,6,5,4,0,1] rfl fun h26=>?_
  refine sqr fun _ hK7=>mv h26 rfl fun _ h27=>h27.sk [15,7,6,5,0,1] rfl fun h28=>mv h28 rfl fun _ h29=>h29.sk [4,15,7,6,0,1] rfl fun h30=>mv h30 rfl fun _ h31=>h31.sn [5,4,7,6,0,1] rfl fun h32=>hK7 _ _<|wp_ret ?_
  try simp only [Exit.then,Exit.inBlock]
  refine Bn (v:=.tuple #[.pointer none,ν 15]) (FS h32 rfl rfl rfl) h32.defs ?_
  exact absurd hf (by rw [GW (AI hc1)];decide)
theorem Fa {w:World} {cf ob:Nat} {F:FsM} {A:AdM} {R:List Ch} {δ:Nat→Int} (hS0:Sep w ((cP cf ob F A)++R)) (hok:FsC F δ) (hz:SmF F) {X:List UInt8} (hX:X.length≤1000) (hf:¬ (Ac F X).1=0) :
  CallsR Tryz.prog 69 #[π cf,σ X] w (fun v w'=>v=.tuple #[.pointer none,ν (Ac F X).1]∧Sep w' ((cP cf ob F A)++R)):=by
 have hS:=Sep.tail_many (xs:=cP cf ob F A) hS0;clear hS0
 have hz0:=hz;obtain ⟨hz1,hz2,hz3⟩:F.N.length≤1000∧F.E.length≤1000∧F.O.length≤1000:=hz
 refine AB Tryz.func69 rfl (N:=21) Tryz.ntmps69 (by show 2≤21;decide) [(0,π cf),(1,σ X)] rfl fun _ h1=>sqr fun _ hK3=>mvs 2 h1 rfl fun _ h6=>wpList_nil<|hK3 _ _<|sqr fun _ hK8=>mv h6 rfl fun _ h9=>?_
 rcases bC ((Ag X).isSome) with hc1 | hc1
 ·skip
  obtain ⟨L13,hL14⟩:=Option.isSome_iff_exists.1 hc1
  have h2:=Dj hL14
  have hwk:Ao F 0 (L13.take L13.length)=((Ac F X).1,0):=by rw [List.take_length,← CV hL14];exact Qw hf
  refine cl h9 rfl Cd (Fk (X:=X) hS ω hL14) fun _ v1 w1 r1 h3=>?_
  obtain ⟨pax16,pcx17,rfl,s1⟩:=r1
  refine mvs 5 h3 rfl fun _ h4=>h4.sn [7,6,5,4,0,1] rfl fun h5=>hK8 _ _<|sq fun _ hK1=>sqr fun _ hK2=>mv h5 rfl fun _ h7=>bv h7 rfl (cNe _ _ _ _ rfl) fun _ h8=>h8.sn [14,7,6,5,4,0,1] rfl fun h10=>hK2 _ _<|wcF h10 rfl rfl<|h10.sk [7,6,5,4,0,1] rfl fun h11=>?_
  refine wp_skip<|hK1 _ _<|sqr fun _ hK4=>mvs 2 h11 rfl fun _ h12=>cl h12 rfl CU (KU (k0:=0) (cf:=cf) (F:=F) s1 hok hz0 (Fx hL14) ω ω hwk ω) fun _ v2 w2 r2 h13=>?_
  obtain ⟨rfl,s2⟩:=r2
  refine mvs 2 h13 rfl fun _ h14=>h14.sk [20,19,18,17,16,7,6,5,0,1] rfl fun h15=>mv h15 rfl fun _ h16=>h16.sk [4,20,19,18,17,16,7,6,0,1] rfl fun h17=>mv h17 rfl fun _ h18=>h18.sn [5,4,7,6,0,1] rfl fun h19=>hK4 _ _<|wp_ret ?_
  try simp only [Exit.then,Exit.inBlock]
  refine Bn (v:=.tuple #[.pointer none,ν ((Ac F X).1)]) (FS h19 rfl rfl rfl) h19.defs ?_
  exact ⟨rfl,Sep.tail_un (xs:=[_,_,_]) (s2.pk [1,2,3,4] rfl)⟩
 ·skip
  refine cl h9 rfl Cd (Hc (X:=X) hS ω (AI hc1)) fun _ v3 w3 r3 h20=>?_
  obtain ⟨pax68,pcx69,rfl,s3⟩:=r3
  refine mvs 5 h20 rfl fun _ h21=>h21.sn [7,6,5,4,0,1] rfl fun h22=>hK8 _ _<|sq fun _ hK5=>sqr fun _ hK6=>mv h22 rfl fun _ h23=>bv h23 rfl (cNe _ _ _ _ rfl) fun _ h24=>h24.sn [14,7,6,5,4,0,1] rfl fun h25=>hK6 _ _<|wcT h25 rfl rfl<|h25.sk [7,6,5,4,0,1] rfl fun h26=>?_
  refine sqr fun _ hK7=>mv h26 rfl fun _ h27=>h27.sk [15,7,6,5,0,1] rfl fun h28=>mv h28 rfl fun _ h29=>h29.sk [4,15,7,6,0,1] rfl fun h30=>mv h30 rfl fun _ h31=>h31.sn [5,4,7,6,0,1] rfl fun h32=>hK7 _ _<|wp_ret ?_
  try simp only [Exit.then,Exit.inBlock]
  refine Bn (v:=.tuple #[.pointer none,ν 15]) (FS h32 rfl rfl rfl) h32.defs ?_
  exact ⟨by rw [GW (AI hc1)],Sep.tail_un (xs:=[_,_,_]) s3⟩
theorem EP {w:World} {cf ob:Nat} {F:FsM} {A:AdM} {R:List Ch} {δ:Nat→Int} (hS0:Sep w ((cP cf ob F A)++R)) (hok:FsC F δ) (hz:SmF F) {X:List UInt8} (hX:X.length≤1000) (hf:(Aa F X).1=0) :
  CallsR Tryz.prog 71 #[π cf,σ X] w (fun v w'=>v=.tuple #[π (A.ad (Aa F X).2.1),.string (Aa F X).2.2,ν 0]∧Sep w' ((cP cf ob F A)++R)):=by
 have hS:=Sep.tail_many (xs:=cP cf ob F A) hS0;clear hS0
 have hz0:=hz;obtain ⟨hz1,hz2,hz3⟩:F.N.length≤1000∧F.E.length≤1000∧F.O.length≤1000:=hz
 refine AB Tryz.func71 rfl (N:=36) Tryz.ntmps71 (by show 2≤36;decide) [(0,π cf),(1,σ X)] rfl fun _ h1=>sqr fun _ hK3=>mvs 3 h1 rfl fun _ h8=>wpList_nil<|hK3 _ _<|sqr fun _ hK1=>mv h8 rfl fun _ h2=>?_
 rcases bC ((Ag X).isSome) with hc1 | hc1
 ·skip
  rcases bC (decide (Ag X=some [])) with hc2 | hc2
  ·skip
   have hp1:Ag X=some []:=(dT hc2)
   refine cl h2 rfl Cj (EM (X:=X) hS ω (.inr (dT hc2))) fun _ v1 w1 r1 h3=>?_
   obtain ⟨rfl,s1⟩:=r1
   refine mvs 7 h3 rfl fun _ h4=>h4.sn [9,8,7,6,5,4,0,1] rfl fun h5=>hK1 _ _<|sq fun _ hK2=>sqr fun _ hK4=>mv h5 rfl fun _ h6=>bv h6 rfl (cNe _ _ _ _ rfl) fun _ h7=>h7.sn [18,9,8,7,6,5,4,0,1] rfl fun h9=>hK4 _ _<|wcT h9 rfl rfl<|h9.sk [9,8,7,6,5,4,0,1] rfl fun h10=>?_
   refine sqr fun _ hK5=>mv h10 rfl fun _ h11=>h11.sk [19,9,8,7,6,5,0,1] rfl fun h12=>mv h12 rfl fun _ h13=>h13.sk [4,19,9,8,7,6,0,1] rfl fun h14=>mv h14 rfl fun _ h15=>h15.sk [5,4,19,9,8,7,0,1] rfl fun h16=>mv h16 rfl fun _ h17=>h17.sn [6,5,4,9,8,7,0,1] rfl fun h18=>hK5 _ _ ?_
   refine wp_ret ?_
   try simp only [Exit.then,Exit.inBlock]
   refine Bn (v:=.tuple #[.pointer none,σ [],ν 15]) (Hg h18 rfl rfl rfl rfl) h18.defs ?_
   have hq:Aa F X=(15,0,Bv):=(show Ag X=none∨Ag X=some [] from (.inr (dT hc2))).elim Fm EN
   exact absurd (congrArg Prod.fst hq) ω
  ·skip
   have hp2:¬ (Ag X=some []):=(dF hc2)
   obtain ⟨M61,x62,hL63⟩:=Hs hc1 (dF hc2)
   have hl64:(M61++[x62]).length=M61.length+1:=List.length_append;have h19:=Dj hL63
   refine cl h2 rfl Cj (Hb (X:=X) hS ω hL63 ω) fun _ v2 w2 r2 h20=>?_
   obtain ⟨pax66,pcx67,rfl,s2⟩:=r2
   refine mvs 7 h20 rfl fun _ h21=>h21.sn [9,8,7,6,5,4,0,1] rfl fun h22=>hK1 _ _<|sq fun _ hK6=>sqr fun _ hK7=>mv h22 rfl fun _ h23=>bv h23 rfl (cNe _ _ _ _ rfl) fun _ h24=>h24.sn [18,9,8,7,6,5,4,0,1] rfl fun h25=>hK7 _ _<|wcF h25 rfl rfl<|h25.sk [9,8,7,6,5,4,0,1] rfl fun h26=>?_
   refine wp_skip<|hK6 _ _<|sqr fun _ hK8=>mvs 2 h26 rfl fun _ h27=>?_
   rcases bC (decide ((Ao F 0 M61).1=0)) with hc3 | hc3
   ·skip
    have hp3:(Ao F 0 M61).1=0:=(dT hc3)
    have hlt106:(Ao F 0 M61).2<F.N.length:=hok.walk_lt _ _ hok.n0.1
    have hwk105:Ao F 0 ((M61++[x62]).take ((M61++[x62]).length-1))=(0,(Ao F 0 M61).2):=by rw [EU,← dT hc3]
    refine cl h27 rfl CU (Jq (e0:=0) (cf:=cf) (F:=F) s2 hok hz0 (Fx hL63) ω ω hwk105) fun _ v3 w3 r3 h28=>?_
    obtain ⟨rfl,s3⟩:=r3
    refine mvs 4 h28 rfl fun _ h29=>h29.sk [10,25,24,20,23,22,21,8,7,6,5,4,0,1] rfl fun h30=>mv h30 rfl fun _ h31=>h31.sn [9,10,8,7,6,5,4,0,1] rfl fun h32=>hK8 _ _<|sq fun _ hK9=>sqr fun _ hK10=>mv h32 rfl fun _ h33=>bv h33 rfl (cNe _ _ _ _ rfl) fun _ h34=>h34.sn [27,9,10,8,7,6,5,4,0,1] rfl fun h35=>hK10 _ _ ?_
    refine wcF h35 rfl rfl<|h35.sk [9,10,8,7,6,5,4,0,1] rfl fun h36=>wp_skip<|hK9 _ _<|sq fun _ hK11=>sqr fun _ hK12=>mvs 2 h36 rfl fun _ h37=>sv1 h37 rfl (rfa h37 rfl rfl (fun w=>Ay (A.ad (Ao F 0 M61).2) 0 w)) fun _ h38=>sw1 h38 rfl (rld h38 rfl rfl (NdP.c0 (F:=FsM.nE F) (A:=AdM.nC A) (k:=((Ao F 0 M61).2)) (s3.get 2 rfl:NdP _ _ _) (show (Ao F 0 M61).2<F.N.length from ω) υ3 rfl)) fun _ h39=>bv h39 (z:=.bool (!(F.dir ((Ao F 0 M61).2)))) rfl (cNe _ _ _ _ (Je _)) fun _ h40=>h40.sn [33,9,10,8,7,6,5,4,0,1] rfl fun h41=>hK12 _ _ ?_
    rcases bC (F.dir ((Ao F 0 M61).2)) with hc4 | hc4
    ·skip
     refine wcF h41 rfl (Bq hc4)<|h41.sk [9,10,8,7,6,5,4,0,1] rfl fun h42=>wp_skip<|hK11 _ _<|sqr fun _ hK13=>mvs 2 h42 rfl fun _ h43=>h43.sk [35,34,9,10,8,7,6,5,0,1] rfl fun h44=>mv h44 rfl fun _ h45=>h45.sk [4,35,34,9,10,8,7,6,0,1] rfl fun h46=>mv h46 rfl fun _ h47=>h47.sk [5,4,35,34,9,10,8,7,0,1] rfl fun h48=>?_
     refine mv h48 rfl fun _ h49=>h49.sn [6,5,4,9,10,8,7,0,1] rfl fun h50=>hK13 _ _<|wp_ret ?_
     try simp only [Exit.then,Exit.inBlock]
     refine Bn (v:=.tuple #[π (A.ad (Ao F 0 M61).2),.string ((M61++[x62]).getD ((M61++[x62]).length-1) Bv),ν 0]) (Hg h50 rfl rfl rfl rfl) h50.defs ?_
     have hq:=(Ct (F:=F) hL63).trans (Jl (dT hc3) hc4)
     exact ⟨by rw [hq,Ho],Sep.tail_un (xs:=[_,_,_]) (s3.pk [1,2,3,4] rfl)⟩
    ·skip
     refine wcT h41 rfl (BC hc4)<|h41.sk [9,10,8,7,6,5,4,0,1] rfl fun h51=>sqr fun _ hK14=>h51.sk [9,10,8,7,6,5,0,1] rfl fun h52=>mv h52 rfl fun _ h53=>h53.sk [4,9,10,8,7,6,0,1] rfl fun h54=>mv h54 rfl fun _ h55=>h55.sk [5,4,9,10,8,7,0,1] rfl fun h56=>mv h56 rfl fun _ h57=>wpList_nil<|hK14 _ _ ?_
     refine wp_ret ?_
     try simp only [Exit.then,Exit.inBlock]
     refine Bn (v:=.tuple #[.pointer none,σ [],ν 12]) (Hg h57 rfl rfl rfl rfl) h57.defs ?_
     have hq:=(Ct (F:=F) hL63).trans (GB (dT hc3) hc4)
     exact absurd (congrArg Prod.fst hq) ω
   ·skip
    have hp4:¬ ((Ao F 0 M61).1=0):=(dF hc3)
    have hlt179:(Ao F 0 M61).2<F.N.length:=hok.walk_lt _ _ hok.n0.1
    have hwk178:Ao F 0 ((M61++[x62]).take ((M61++[x62]).length-1))=((Ao F 0 M61).1,0):=by rw [EU];exact IV (dF hc3)
    refine cl h27 rfl CU (KU (k0:=0) (cf:=cf) (F:=F) s2 hok hz0 (Fx hL63) ω ω hwk178 ω) fun _ v4 w4 r4 h58=>?_
    obtain ⟨rfl,s4⟩:=r4
    refine mvs 4 h58 rfl fun _ h59=>h59.sk [10,25,24,20,23,22,21,8,7,6,5,4,0,1] rfl fun h60=>mv h60 rfl fun _ h61=>h61.sn [9,10,8,7,6,5,4,0,1] rfl fun h62=>hK8 _ _<|sq fun _ hK15=>sqr fun _ hK16=>mv h62 rfl fun _ h63=>bv h63 rfl (cNe _ _ _ _ (decide_eq_true ω)) fun _ h64=>h64.sn [27,9,10,8,7,6,5,4,0,1] rfl fun h65=>hK16 _ _ ?_
    refine wcT h65 rfl rfl<|h65.sk [9,10,8,7,6,5,4,0,1] rfl fun h66=>sqr fun _ hK17=>mv h66 rfl fun _ h67=>h67.sk [28,9,10,8,7,6,5,0,1] rfl fun h68=>mv h68 rfl fun _ h69=>h69.sk [4,28,9,10,8,7,6,0,1] rfl fun h70=>mv h70 rfl fun _ h71=>h71.sk [5,4,28,9,10,8,7,0,1] rfl fun h72=>mv h72 rfl fun _ h73=>?_
    refine h73.sn [6,5,4,9,10,8,7,0,1] rfl fun h74=>hK17 _ _<|wp_ret ?_
    try simp only [Exit.then,Exit.inBlock]
    refine Bn (v:=.tuple #[.pointer none,σ [],ν ((Ao F 0 M61).1)]) (Hg h74 rfl rfl rfl rfl) h74.defs ?_
    have hq:=(Ct (F:=F) hL63).trans (Iq (dF hc3))
    exact absurd (congrArg Prod.fst hq) ω
 ·skip
  refine cl h2 rfl Cj (EM (X:=X) hS ω (.inl (AI hc1))) fun _ v5 w5 r5 h75=>?_
  obtain ⟨rfl,s5⟩:=r5
  refine mvs 7 h75 rfl fun _ h76=>h76.sn [9,8,7,6,5,4,0,1] rfl fun h77=>hK1 _ _<|sq fun _ hK18=>sqr fun _ hK19=>mv h77 rfl fun _ h78=>bv h78 rfl (cNe _ _ _ _ rfl) fun _ h79=>h79.sn [18,9,8,7,6,5,4,0,1] rfl fun h80=>hK19 _ _<|wcT h80 rfl rfl<|h80.sk [9,8,7,6,5,4,0,1] rfl fun h81=>?_
  refine sqr fun _ hK20=>mv h81 rfl fun _ h82=>h82.sk [19,9,8,7,6,5,0,1] rfl fun h83=>mv h83 rfl fun _ h84=>h84.sk [4,19,9,8,7,6,0,1] rfl fun h85=>mv h85 rfl fun _ h86=>h86.sk [5,4,19,9,8,7,0,1] rfl fun h87=>mv h87 rfl fun _ h88=>h88.sn [6,5,4,9,8,7,0,1] rfl fun h89=>hK20 _ _ ?_
  refine wp_ret ?_
  try simp only [Exit.then,Exit.inBlock]
  refine Bn (v:=.tuple #[.pointer none,σ [],ν 15]) (Hg h89 rfl rfl rfl rfl) h89.defs ?_
  have hq:Aa F X=(15,0,Bv):=(show Ag X=none∨Ag X=some [] from (.inl (AI hc1))).elim Fm EN
  exact absurd (congrArg Prod.fst hq) ω
theorem Gl {w:World} {cf ob:Nat} {F:FsM} {A:AdM} {R:List Ch} {δ:Nat→Int} (hS0:Sep w ((cP cf ob F A)++R)) (hok:FsC F δ) (hz:SmF F) {X:List UInt8} (hX:X.length≤1000) (hf:¬ (Aa F X).1=0) :
  CallsR Tryz.prog 71 #[π cf,σ X] w (fun v w'=>v=.tuple #[.pointer none,σ [],ν (Aa F X).1]∧Sep w' ((cP cf ob F A)++R)):=by
 have hS:=Sep.tail_many (xs:=cP cf ob F A) hS0;clear hS0
 have hz0:=hz;obtain ⟨hz1,hz2,hz3⟩:F.N.length≤1000∧F.E.length≤1000∧F.O.length≤1000:=hz
 refine AB Tryz.func71 rfl (N:=36) Tryz.ntmps71 (by show 2≤36;decide) [(0,π cf),(1,σ X)] rfl fun _ h1=>sqr fun _ hK3=>mvs 3 h1 rfl fun _ h8=>wpList_nil<|hK3 _ _<|sqr fun _ hK1=>mv h8 rfl fun _ h2=>?_
 rcases bC ((Ag X).isSome) with hc1 | hc1
 ·skip
  rcases bC (decide (Ag X=some [])) with hc2 | hc2
  ·skip
   have hp1:Ag X=some []:=(dT hc2)
   refine cl h2 rfl Cj (EM (X:=X) hS ω (.inr (dT hc2))) fun _ v1 w1 r1 h3=>?_
   obtain ⟨rfl,s1⟩:=r1
   refine mvs 7 h3 rfl fun _ h4=>h4.sn [9,8,7,6,5,4,0,1] rfl fun h5=>hK1 _ _<|sq fun _ hK2=>sqr fun _ hK4=>mv h5 rfl fun _ h6=>bv h6 rfl (cNe _ _ _ _ rfl) fun _ h7=>h7.sn [18,9,8,7,6,5,4,0,1] rfl fun h9=>hK4 _ _<|wcT h9 rfl rfl<|h9.sk [9,8,7,6,5,4,0,1] rfl fun h10=>?_
   refine sqr fun _ hK5=>mv h10 rfl fun _ h11=>h11.sk [19,9,8,7,6,5,0,1] rfl fun h12=>mv h12 rfl fun _ h13=>h13.sk [4,19,9,8,7,6,0,1] rfl fun h14=>mv h14 rfl fun _ h15=>h15.sk [5,4,19,9,8,7,0,1] rfl fun h16=>mv h16 rfl fun _ h17=>h17.sn [6,5,4,9,8,7,0,1] rfl fun h18=>hK5 _ _ ?_
   refine wp_ret ?_
   try simp only [Exit.then,Exit.inBlock]
   refine Bn (v:=.tuple #[.pointer none,σ [],ν 15]) (Hg h18 rfl rfl rfl rfl) h18.defs ?_
   have hq:Aa F X=(15,0,Bv):=(show Ag X=none∨Ag X=some [] from (.inr (dT hc2))).elim Fm EN
   exact ⟨by rw [hq],Sep.tail_un (xs:=[_,_,_]) s1⟩
  ·skip
   have hp2:¬ (Ag X=some []):=(dF hc2)
   obtain ⟨M61,x62,hL63⟩:=Hs hc1 (dF hc2)
   have hl64:(M61++[x62]).length=M61.length+1:=List.length_append;have h19:=Dj hL63
   refine cl h2 rfl Cj (Hb (X:=X) hS ω hL63 ω) fun _ v2 w2 r2 h20=>?_
   obtain ⟨pax66,pcx67,rfl,s2⟩:=r2
   refine mvs 7 h20 rfl fun _ h21=>h21.sn [9,8,7,6,5,4,0,1] rfl fun h22=>hK1 _ _<|sq fun _ hK6=>sqr fun _ hK7=>mv h22 rfl fun _ h23=>bv h23 rfl (cNe _ _ _ _ rfl) fun _ h24=>h24.sn [18,9,8,7,6,5,4,0,1] rfl fun h25=>hK7 _ _<|wcF h25 rfl rfl<|h25.sk [9,8,7,6,5,4,0,1] rfl fun h26=>?_
   refine wp_skip<|hK6 _ _<|sqr fun _ hK8=>mvs 2 h26 rfl fun _ h27=>?_
   rcases bC (decide ((Ao F 0 M61).1=0)) with hc3 | hc3
   ·skip
    have hp3:(Ao F 0 M61).1=0:=(dT hc3)
    have hlt106:(Ao F 0 M61).2<F.N.length:=hok.walk_lt _ _ hok.n0.1
    have hwk105:Ao F 0 ((M61++[x62]).take ((M61++[x62]).length-1))=(0,(Ao F 0 M61).2):=by rw [EU,← dT hc3]
    refine cl h27 rfl CU (Jq (e0:=0) (cf:=cf) (F:=F) s2 hok hz0 (Fx hL63) ω ω hwk105) fun _ v3 w3 r3 h28=>?_
    obtain ⟨rfl,s3⟩:=r3
    refine mvs 4 h28 rfl fun _ h29=>h29.sk [10,25,24,20,23,22,21,8,7,6,5,4,0,1] rfl fun h30=>mv h30 rfl fun _ h31=>h31.sn [9,10,8,7,6,5,4,0,1] rfl fun h32=>hK8 _ _<|sq fun _ hK9=>sqr fun _ hK10=>mv h32 rfl fun _ h33=>bv h33 rfl (cNe _ _ _ _ rfl) fun _ h34=>h34.sn [27,9,10,8,7,6,5,4,0,1] rfl fun h35=>hK10 _ _ ?_
    refine wcF h35 rfl rfl<|h35.sk [9,10,8,7,6,5,4,0,1] rfl fun h36=>wp_skip<|hK9 _ _<|sq fun _ hK11=>sqr fun _ hK12=>mvs 2 h36 rfl fun _ h37=>sv1 h37 rfl (rfa h37 rfl rfl (fun w=>Ay (A.ad (Ao F 0 M61).2) 0 w)) fun _ h38=>sw1 h38 rfl (rld h38 rfl rfl (NdP.c0 (F:=FsM.nE F) (A:=AdM.nC A) (k:=((Ao F 0 M61).2)) (s3.get 2 rfl:NdP _ _ _) (show (Ao F 0 M61).2<F.N.length from ω) υ3 rfl)) fun _ h39=>bv h39 (z:=.bool (!(F.dir ((Ao F 0 M61).2)))) rfl (cNe _ _ _ _ (Je _)) fun _ h40=>h40.sn [33,9,10,8,7,6,5,4,0,1] rfl fun h41=>hK12 _ _ ?_
    rcases bC (F.dir ((Ao F 0 M61).2)) with hc4 | hc4
    ·skip
     refine wcF h41 rfl (Bq hc4)<|h41.sk [9,10,8,7,6,5,4,0,1] rfl fun h42=>wp_skip<|hK11 _ _<|sqr fun _ hK13=>mvs 2 h42 rfl fun _ h43=>h43.sk [35,34,9,10,8,7,6,5,0,1] rfl fun h44=>mv h44 rfl fun _ h45=>h45.sk [4,35,34,9,10,8,7,6,0,1] rfl fun h46=>mv h46 rfl fun _ h47=>h47.sk [5,4,35,34,9,10,8,7,0,1] rfl fun h48=>?_
     refine mv h48 rfl fun _ h49=>h49.sn [6,5,4,9,10,8,7,0,1] rfl fun h50=>hK13 _ _<|wp_ret ?_
     try simp only [Exit.then,Exit.inBlock]
     refine Bn (v:=.tuple #[π (A.ad (Ao F 0 M61).2),.string ((M61++[x62]).getD ((M61++[x62]).length-1) Bv),ν 0]) (Hg h50 rfl rfl rfl rfl) h50.defs ?_
     have hq:=(Ct (F:=F) hL63).trans (Jl (dT hc3) hc4)
     exact absurd (congrArg Prod.fst hq) ω
    ·skip
     refine wcT h41 rfl (BC hc4)<|h41.sk [9,10,8,7,6,5,4,0,1] rfl fun h51=>sqr fun _ hK14=>h51.sk [9,10,8,7,6,5,0,1] rfl fun h52=>mv h52 rfl fun _ h53=>h53.sk [4,9,10,8,7,6,0,1] rfl fun h54=>mv h54 rfl fun _ h55=>h55.sk [5,4,9,10,8,7,0,1] rfl fun h56=>mv h56 rfl fun _ h57=>wpList_nil<|hK14 _ _ ?_
     refine wp_ret ?_
     try simp only [Exit.then,Exit.inBlock]
     refine Bn (v:=.tuple #[.pointer none,σ [],ν 12]) (Hg h57 rfl rfl rfl rfl) h57.defs ?_
     have hq:=(Ct (F:=F) hL63).trans (GB (dT hc3) hc4)
     exact ⟨by rw [hq],Sep.tail_un (xs:=[_,_,_]) (s3.pk [1,2,3,4] rfl)⟩
   ·skip
    have hp4:¬ ((Ao F 0 M61).1=0):=(dF hc3)
    have hlt179:(Ao F 0 M61).2<F.N.length:=hok.walk_lt _ _ hok.n0.1
    have hwk178:Ao F 0 ((M61++[x62]).take ((M61++[x62]).length-1))=((Ao F 0 M61).1,0):=by rw [EU];exact IV (dF hc3)
    refine cl h27 rfl CU (KU (k0:=0) (cf:=cf) (F:=F) s2 hok hz0 (Fx hL63) ω ω hwk178 ω) fun _ v4 w4 r4 h58=>?_
    obtain ⟨rfl,s4⟩:=r4
    refine mvs 4 h58 rfl fun _ h59=>h59.sk [10,25,24,20,23,22,21,8,7,6,5,4,0,1] rfl fun h60=>mv h60 rfl fun _ h61=>h61.sn [9,10,8,7,6,5,4,0,1] rfl fun h62=>hK8 _ _<|sq fun _ hK15=>sqr fun _ hK16=>mv h62 rfl fun _ h63=>bv h63 rfl (cNe _ _ _ _ (decide_eq_true ω)) fun _ h64=>h64.sn [27,9,10,8,7,6,5,4,0,1] rfl fun h65=>hK16 _ _ ?_
    refine wcT h65 rfl rfl<|h65.sk [9,10,8,7,6,5,4,0,1] rfl fun h66=>sqr fun _ hK17=>mv h66 rfl fun _ h67=>h67.sk [28,9,10,8,7,6,5,0,1] rfl fun h68=>mv h68 rfl fun _ h69=>h69.sk [4,28,9,10,8,7,6,0,1] rfl fun h70=>mv h70 rfl fun _ h71=>h71.sk [5,4,28,9,10,8,7,0,1] rfl fun h72=>mv h72 rfl fun _ h73=>?_
    refine h73.sn [6,5,4,9,10,8,7,0,1] rfl fun h74=>hK17 _ _<|wp_ret ?_
    try simp only [Exit.then,Exit.inBlock]
    refine Bn (v:=.tuple #[.pointer none,σ [],ν ((Ao F 0 M61).1)]) (Hg h74 rfl rfl rfl rfl) h74.defs ?_
    have hq:=(Ct (F:=F) hL63).trans (Iq (dF hc3))
    exact ⟨by rw [hq],Sep.tail_un (xs:=[_,_,_]) (s4.pk [1,2,3,4] rfl)⟩
 ·skip
  refine cl h2 rfl Cj (EM (X:=X) hS ω (.inl (AI hc1))) fun _ v5 w5 r5 h75=>?_
  obtain ⟨rfl,s5⟩:=r5
  refine mvs 7 h75 rfl fun _ h76=>h76.sn [9,8,7,6,5,4,0,1] rfl fun h77=>hK1 _ _<|sq fun _ hK18=>sqr fun _ hK19=>mv h77 rfl fun _ h78=>bv h78 rfl (cNe _ _ _ _ rfl) fun _ h79=>h79.sn [18,9,8,7,6,5,4,0,1] rfl fun h80=>hK19 _ _<|wcT h80 rfl rfl<|h80.sk [9,8,7,6,5,4,0,1] rfl fun h81=>?_
  refine sqr fun _ hK20=>mv h81 rfl fun _ h82=>h82.sk [19,9,8,7,6,5,0,1] rfl fun h83=>mv h83 rfl fun _ h84=>h84.sk [4,19,9,8,7,6,0,1] rfl fun h85=>mv h85 rfl fun _ h86=>h86.sk [5,4,19,9,8,7,0,1] rfl fun h87=>mv h87 rfl fun _ h88=>h88.sn [6,5,4,9,8,7,0,1] rfl fun h89=>hK20 _ _ ?_
  refine wp_ret ?_
  try simp only [Exit.then,Exit.inBlock]
  refine Bn (v:=.tuple #[.pointer none,σ [],ν 15]) (Hg h89 rfl rfl rfl rfl) h89.defs ?_
  have hq:Aa F X=(15,0,Bv):=(show Ag X=none∨Ag X=some [] from (.inl (AI hc1))).elim Fm EN
  exact ⟨by rw [hq],Sep.tail_un (xs:=[_,_,_]) s5⟩
theorem Jv {w:World} {R:List Ch} (hS0:Sep w R) (X:List UInt8) (hX:X.length≤1000) :
  CallsR Tryz.prog 77 #[σ X] w (fun v w'=>v=.bool (Jj X)∧Sep w' R):=by
 have hS:Sep w [Ch.many R]:=Sep.tail_many (xs:=[]) hS0;clear hS0
 refine AB Tryz.func77 rfl (N:=14) Tryz.ntmps77 (by show 1≤14;decide) [(0,σ X)] rfl fun _ h1=>sqr fun _ hK3=>mv h1 rfl fun _ h4=>wpList_nil<|hK3 _ _<|sqr fun _ hK6=>mv h4 rfl fun _ h7=>?_
 rcases bC ((Ag X).isSome) with hc9 | hc9
 ·skip
  rcases bC (decide (Ag X=some [])) with hc1 | hc1
  ·skip
   have hp1:Ag X=some []:=(dT hc1)
   refine cl h7 rfl Cj (EM (X:=X) hS ω (.inr (dT hc1))) fun _ v1 w1 r1 h2=>?_
   obtain ⟨rfl,s1⟩:=r1
   refine mvs 7 h2 rfl fun _ h3=>h3.sn [5,2,0] rfl fun h5=>hK6 _ _<|sqr fun _ hK1=>mv h5 rfl fun _ h6=>bv h6 rfl (cEq _ _ _ _ rfl) fun _ h8=>h8.sk [13,12,5,0] rfl fun h9=>mv h9 rfl fun _ h10=>h10.sn [2,5,0] rfl fun h11=>hK1 _ _ ?_
   refine wp_ret ?_
   try simp only [Exit.then,Exit.inBlock]
   refine Bn (v:=.bool false) (Cf h11 rfl rfl) h11.defs ?_
   exact ⟨congrArg Value.bool ((On (.inr (dT hc1))).symm),Sep.tail_un (xs:=[]) s1⟩
  ·skip
   have hp2:¬ (Ag X=some []):=(dF hc1)
   obtain ⟨M45,x46,hL47⟩:=Hs hc9 (dF hc1)
   have hl48:(M45++[x46]).length=M45.length+1:=List.length_append;have h12:=Dj hL47
   refine cl h7 rfl Cj (Hb (X:=X) hS ω hL47 ω) fun _ v2 w2 r2 h13=>?_
   obtain ⟨pax50,pcx51,rfl,s2⟩:=r2
   refine mvs 7 h13 rfl fun _ h14=>h14.sn [5,2,0] rfl fun h15=>hK6 _ _<|sqr fun _ hK2=>mv h15 rfl fun _ h16=>bv h16 rfl (cEq _ _ _ _ rfl) fun _ h17=>h17.sk [13,12,5,0] rfl fun h18=>mv h18 rfl fun _ h19=>h19.sn [2,5,0] rfl fun h20=>hK2 _ _ ?_
   refine wp_ret ?_
   try simp only [Exit.then,Exit.inBlock]
   refine Bn (v:=.bool true) (Cf h20 rfl rfl) h20.defs ?_
   exact ⟨congrArg Value.bool ((QV hL47).symm),Sep.tail_un (xs:=[]) (s2.pk [1] rfl)⟩
 ·skip
  refine cl h7 rfl Cj (EM (X:=X) hS ω (.inl (AI hc9))) fun _ v3 w3 r3 h21=>?_
  obtain ⟨rfl,s3⟩:=r3
  refine mvs 7 h21 rfl fun _ h22=>h22.sn [5,2,0] rfl fun h23=>hK6 _ _<|sqr fun _ hK4=>mv h23 rfl fun _ h24=>bv h24 rfl (cEq _ _ _ _ rfl) fun _ h25=>h25.sk [13,12,5,0] rfl fun h26=>mv h26 rfl fun _ h27=>h27.sn [2,5,0] rfl fun h28=>hK4 _ _ ?_
  refine wp_ret ?_
  try simp only [Exit.then,Exit.inBlock]
  refine Bn (v:=.bool false) (Cf h28 rfl rfl) h28.defs ?_
  exact ⟨congrArg Value.bool ((On (.inl (AI hc9))).symm),Sep.tail_un (xs:=[]) s3⟩
theorem Gm {w:World} {R:List Ch} (hS0:Sep w R) (X:List UInt8) {n:Nat} (hX:X.length≤1000) (hn:n≤1000) :
  CallsR Tryz.prog 74 #[σ X,ν (n:Int)] w (fun v w'=>v=σ (Ba X n)∧Sep w' R):=by
 have hS:Sep w [Ch.many R]:=Sep.tail_many (xs:=[]) hS0;clear hS0
 refine AB Tryz.func74 rfl (N:=19) Tryz.ntmps74 (by show 2≤19;decide) [(0,σ X),(1,ν (n:Int))] rfl fun _ h1=>sqr fun _ hK3=>mv h1 rfl fun _ h4=>wpList_nil<|hK3 _ _<|sq fun _ hK6=>sqr fun _ hK7=>mvs 2 h4 rfl fun _ h2=>sv1 h2 rfl (CH h2 rfl rfl υ9) fun _ h3=>bv h3 (z:=.bool (decide ((n:Int)≤(X.length:Int)))) rfl (cLe _ _ _ _ rfl) fun _ h5=>h5.sn [8,4,0,1] rfl fun h6=>hK7 _ _ ?_
 rcases bC (decide ((n:Int)≤(X.length:Int))) with hc1 | hc1
 ·skip
  have hp1:(n:Int)≤(X.length:Int):=(dT hc1)
  refine wcT h6 rfl hc1<|h6.sk [4,0,1] rfl fun h7=>sqr fun _ hK1=>mvs 2 h7 rfl fun _ h8=>sv1 h8 rfl (EA h8 rfl rfl (vl:=none) (vh:=(some (ν (n:Int)))) rfl rfl (fun w=>(fun w=>((slT 9 υ9 X (a:=0) (b:=n) (.inl ⟨rfl,rfl⟩) (.inr ⟨_,rfl,rfl⟩) ω ω) w).trans (by rw [List.drop_zero])) w)) fun _ h9=>h9.sk [11,10,9,0,1] rfl fun h10=>mv h10 rfl fun _ h11=>h11.sn [4,0,1] rfl fun h12=>hK1 _ _<|wp_ret ?_
  try simp only [Exit.then,Exit.inBlock]
  refine Bn (v:=.string (Ad (X.take n))) (Cf h12 rfl rfl) h12.defs ?_
  exact ⟨congrArg (fun z=>Value.string (Ad z)) (RW (by omega)),Sep.tail_un (xs:=[]) hS⟩
 ·skip
  have hp2:¬ ((n:Int)≤(X.length:Int)):=(dF hc1)
  refine wcF h6 rfl hc1<|h6.sk [4,0,1] rfl fun h13=>wp_skip<|hK6 _ _<|sqr fun _ hK2=>mvs 3 h13 rfl fun _ h14=>sv1 h14 rfl (CH h14 rfl rfl υ9) fun _ h15=>bv h15 (z:=ν ((n:Int)-(X.length:Int))) rfl (Ib _ _ _ ω ω ω) fun _ h16=>cl h16 rfl IB ((by have z:=Ra hS (k:=((n:Int)-(X.length:Int)).toNat) ω;rw [show ((((n:Int)-(X.length:Int)).toNat:Nat):Int)=(n:Int)-(X.length:Int) by omega] at z;exact z)) fun _ v1 w1 r1 h17=>?_
  obtain ⟨rfl,s1⟩:=r1
  have hr51:(List.replicate (((n:Int)-(X.length:Int)).toNat) (0:UInt8)).length=(((n:Int)-(X.length:Int)).toNat):=List.length_replicate
  refine bv h17 (z:=σ (X++(List.replicate (((n:Int)-(X.length:Int)).toNat) (0:UInt8)))) rfl (DK _ _ _ X (List.replicate (((n:Int)-(X.length:Int)).toNat) (0:UInt8)) (by (try simp only [List.length_append,List.length_take,List.length_drop,List.length_cons,List.length_nil]);omega)) fun _ h18=>h18.sk [18,17,16,15,14,13,12,0,1] rfl fun h19=>mv h19 rfl fun _ h20=>h20.sn [4,0,1] rfl fun h21=>hK2 _ _<|wp_ret ?_
  try simp only [Exit.then,Exit.inBlock]
  refine Bn (v:=σ (X++(List.replicate (((n:Int)-(X.length:Int)).toNat) (0:UInt8)))) (Cf h21 rfl rfl) h21.defs ?_
  exact ⟨congrArg (fun z=>Value.string (Ad z)) (RX (by omega)),Sep.tail_un (xs:=[]) s1⟩
end
section
theorem MapG.len {ι α:Type} [DecidableEq ι] {K:MapK ι α} {w:World} {b n:Nat} {g:ι→Option α} (h:MapG K w b n g) {L:List ι} (hnd:L.Nodup) (hL:∀ i,i∈L↔K.ok i∧(g i).isSome=true) (ty:TypeId) :
  (Builtin.len_ #[K.t] ty #[.map (some b)]).run Tryz.prog w=.ok (ν (L.length:Int)) w:=by
 obtain ⟨D,h1,h2,h3⟩:=h
 have hrun:=h1.len K.und ty
 suffices hs:Maps.size D=L.length by rw [hs] at hrun;exact hrun
 have ht:Maps.Tidy D:=h1.tidy K.law
 obtain ⟨es,clock,hb,Ft,hsz,hD⟩:=h1
 obtain ⟨E,hE,hpw⟩:=ht
 have hread:∀ p∈E,∃ i,K.ok i∧p.1=K.kl i:=by
  intro p hp
  have e1:E=(es.toList.map (WideElems.rg Tryz.prog K.k K.R)).foldr DataW.insert []:=by
   have:=hE.symm.trans hD;injection this
  rw [e1] at hp
  have hp2:=(Go.WideShapes.sorted_perm (es.toList.map (WideElems.rg Tryz.prog K.k K.R))).mem_iff.1 hp
  obtain ⟨x,hx,rfl⟩:=List.mem_map.1 hp2
  obtain ⟨y,hy⟩:=Ft.reads x hx
  have hk:=WideElems.rd_key hy
  obtain ⟨i,hi,_,e2⟩:=K.inv hk
  exact ⟨i,hi,by rw [show WideElems.rg Tryz.prog K.k K.R x=y from WideElems.rg_of hy];exact e2⟩
 subst hE
 show E.length=L.length
 have n1:(E.map (·.1)).Nodup:=List.pairwise_map.2 hpw
 have n2:(L.map K.kl).Nodup:=List.pairwise_map.2 (List.Pairwise.imp_of_mem (fun {i j} hi hj hne e=>hne (K.inj ((hL i).1 hi).1 ((hL j).1 hj).1 e)) hnd)
 have hp:=(List.perm_ext_iff_of_nodup n1 n2).2 fun l=>by
  constructor
  ·intro hl
   obtain ⟨p,hp,rfl⟩:=List.mem_map.1 hl
   obtain ⟨i,hi,e⟩:=hread p hp
   rw [e]
   refine List.mem_map.2 ⟨i,(hL i).2 ⟨hi,?_⟩,rfl⟩
   rw [← h2 i hi,Maps.has_eq,List.any_eq_true]
   exact ⟨p,hp,by rw [e];exact WideAt.sameKey_self (K.lit hi)⟩
  ·intro hl
   obtain ⟨i,hi,rfl⟩:=List.mem_map.1 hl
   obtain ⟨hi1,hi2⟩:=(hL i).1 hi
   rw [← h2 i hi1,Maps.has_eq,List.any_eq_true] at hi2
   obtain ⟨p,hp,hs⟩:=hi2
   exact List.mem_map.2 ⟨p,hp,WideAt.sameKey_eq hs⟩
 have:=hp.length_eq
 rw [List.length_map,List.length_map] at this
 exact this
theorem EL {E:List EntM} {k:Nat} {s:ByteArray}:s∈Al E k↔(Ai E k s).isSome=true:=by
 unfold Al Ai
 rw [Option.isSome_map,List.find?_isSome]
 constructor
 ·intro h
  obtain ⟨x,hx,rfl⟩:=List.mem_map.1 h
  obtain ⟨h1,h2⟩:=List.mem_filter.1 hx
  exact ⟨x,h1,decide_eq_true ⟨dT h2,rfl⟩⟩
 ·rintro ⟨x,hx,h⟩
  have h:=dT h
  exact List.mem_map.2 ⟨x,List.mem_filter.2 ⟨hx,decide_eq_true h.1⟩,h.2⟩
theorem Ha {E:List EntM} (h:E.Pairwise (fun x y=>¬ (x.dn=y.dn∧x.nm=y.nm))) (k:Nat):(Al E k).Nodup:=by
 unfold Al
 refine List.pairwise_map.2 (List.Pairwise.imp_of_mem (fun {x y} hx hy hne e=>?_) (h.filter _))
 exact hne ⟨(dT (List.mem_filter.1 hx).2).trans (dT (List.mem_filter.1 hy).2).symm,e⟩
theorem Jg {F:FsM} {δ:Nat→Int} (h:FsC F δ) {k:Nat} {s:ByteArray} (hs:s∈Al F.E k):mayN s=true:=by
 unfold Al at hs
 obtain ⟨x,hx,rfl⟩:=List.mem_map.1 hs
 exact (h.e x (List.mem_filter.1 hx).1).2.2
theorem Hk (E:List EntM) (k:Nat):BH E k=(Al E k).length:=by unfold BH Al;rw [List.length_map]
theorem NJ {o:Oper} {a:Act} {N:Nat} {l:List (Nat×Value)} {F:FsM} {A:AdM} {δ:Nat→Int} {k:Nat} (h:Kn N l a) {x:Operand} {T:TypeId} (ho:o.op=.call { callee:=.builtin .len,args:=#[x],argTypes:=#[T] }) (hx:opv l x=some (.map (some (A.mb k)))) {w:World} (hP:NdP F.nE A.nC w) (hok:FsC F δ) (hk:k<F.N.length) (hd:F.dir k=true) (hT:T=95:=by rfl):(execOp a.eval o).run Tryz.prog w=.ok (.value (ν ((BH F.E k:Nat):Int))) w:=by
 subst hT
 refine Fe h (xs:=[x]) (vs:=[.map (some (A.mb k))]) ho (by simp [hx]) fun cs=>?_
 have z:=(hP.mp k hk hd).len (Ha hok.ed k) (fun s=>by
  constructor
  ·intro hs
   refine ⟨IO (Jg hok hs),?_⟩
   have:=EL.1 hs
   show (elA A.nC (Ai F.E k s)).isSome=true
   unfold elA;rw [Option.isSome_map];exact this
  ·rintro ⟨_,hs⟩
   have hs:(elA A.nC (Ai F.E k s)).isSome=true:=hs
   unfold elA at hs;rw [Option.isSome_map] at hs
   exact EL.2 hs) o.type
 rw [Hk]
 have z':(Builtin.len_ #[95] o.type #[.map (some (A.mb k))]).run Tryz.prog w=.ok (ν ((Al F.E k).length:Int)) w:=z
 show (builtin .len #[95] o.type cs #[.map (some (A.mb k))]).run Tryz.prog w=_
 simp only [builtin,Sem.run_bind,z']
 rfl
theorem RZ {o:Oper} {a:Act} {N:Nat} {l:List (Nat×Value)} (h:Kn N l a) {x:Operand} {T:TypeId} (ho:o.op=.call { callee:=.builtin .len,args:=#[x],argTypes:=#[T] }) (hx:opv l x=some (.map none)) (w:World) (hT:T=95:=by rfl):(execOp a.eval o).run Tryz.prog w=.ok (.value (ν 0)) w:=by
 subst hT
 have hu:=υ95
 refine Fe h (xs:=[x]) (vs:=[.map none]) ho (by simp [hx]) fun cs=>?_
 simp [builtin,Builtin.len_,run_underlying hu,Sem.run_bind]
 rfl
def BI (F:FsM) (n m:Nat):Int:=if m=n then 0 else if F.dir n=true∧F.dir m=false then 12 else if F.dir n=true∧0<BH F.E m then 14 else if F.dir n=false∧F.dir m=true then 13 else 0
def KA (F:FsM) (k:Nat):Prop:=k=0∨∃ x∈F.E,x.nd=k
structure AdOk (F:FsM) (A:AdM) (n:Nat):Prop where
 ld:∀ k,F.dir k=true→KA F k→A.ld k=1
 hB:A.B≤n
 hC:A.C≤n
theorem AdOk.step {F F':FsM} {A A':AdM} {n:Nat} (h:AdOk F A n) (hr:∀ k,F'.dir k=true→KA F' k→(F.dir k=true∧KA F k∧A'.ld k=A.ld k)∨A'.ld k=1) (hB:A'.B≤A.B+1) (hC:A'.C≤A.C+1):AdOk F' A' (n+1) where
 ld k hd hk:=by
  rcases hr k hd hk with ⟨h1,h2,h3⟩ | h1
  ·rw [h3];exact h.ld k h1 h2
  ·exact h1
 hB:=by have:=h.hB;omega
 hC:=by have:=h.hC;omega
theorem FC {w:World} {cf ob:Nat} {F:FsM} {A:AdM} {R:List Ch} {δ:Nat→Int} (hS0:Sep w ((cP cf ob F A)++R)) (hok:FsC F δ) (hz:SmF F) {X:List UInt8} (hX:X.length≤1000) (hp:(Aa F X).1=0) :
  CallsR Tryz.prog 75 #[π cf,σ X] w (fun v w'=>v=ν 0∧Sep w' ((cP cf ob (Aq F (Aa F X).2.1 (Aa F X).2.2) A)++R)):=by
 have hS:=Sep.tail_many (xs:=cP cf ob F A) hS0;clear hS0
 have hz0:=hz;obtain ⟨hz1,hz2,hz3⟩:F.N.length≤1000∧F.E.length≤1000∧F.O.length≤1000:=hz
 refine AB Tryz.func75 rfl (N:=23) Tryz.ntmps75 (by show 2≤23;decide) [(0,π cf),(1,σ X)] rfl fun _ h1=>sqr fun _ hK3=>mv h1 rfl fun _ h4=>wpList_nil<|hK3 _ _<|sqr fun _ hK6=>mvs 2 h4 rfl fun _ h9=>?_
 have hpl11:=FsC.place (F:=F) (X:=X) hok ω
 have hpl11a:=hpl11.1.1
 refine cl h9 rfl BD (EP (cf:=cf) (F:=F) hS hok hz0 ω ω) fun _ v1 w1 r1 h2=>?_
 obtain ⟨rfl,s1⟩:=r1
 refine mvs 7 h2 rfl fun _ h3=>h3.sn [7,6,5,4,0,1] rfl fun h5=>hK6 _ _<|sq fun _ hK1=>sqr fun _ hK2=>mv h5 rfl fun _ h6=>bv h6 rfl (cEq _ _ _ _ rfl) fun _ h7=>h7.sn [16,7,6,5,4,0,1] rfl fun h8=>hK2 _ _<|wcT h8 rfl rfl<|h8.sk [7,6,5,4,0,1] rfl fun h10=>?_
 refine wp_region_lit<|mvs 2 h10 rfl fun _ h11=>sv1 h11 rfl (rfa h11 rfl rfl (fun w=>AF (A.ad (Aa F X).2.1) 0 w)) fun _ h12=>sw1 h12 rfl (rld h12 rfl rfl (NdP.c3 (F:=FsM.nE F) (A:=AdM.nC A) (k:=((Aa F X).2.1)) (s1.get 1 rfl:NdP _ _ _) (show (Aa F X).2.1<F.N.length from ω) hpl11.1.2 υ95 rfl)) fun _ h13=>mv h13 rfl fun _ h14=>so (wn rfl) fun _ hK4=>SX (F:=F) (A:=A) (F':=(Aq F ((Aa F X).2.1) ((Aa F X).2.2))) (k:=((Aa F X).2.1)) h14 rfl rfl rfl rfl s1 1 rfl rfl rfl ω hpl11.1.2 (CO hpl11.2) rfl (fun j t=>BA _ _ _ _ _) (cs':=[Ah cf 65 [π (A.ad 0),.map (some ob)],Av (Aq F ((Aa F X).2.1) ((Aa F X).2.2)) A,AM KO ob A.C (opG F A),Ch.many R]) rfl fun _ w2 h15 s2=>hK4 _ _ ?_
 refine h15.sn [7,6,5,4,0,1] rfl fun h16=>hK1 _ _<|sqr fun _ hK5=>mv h16 rfl fun _ h17=>h17.sk [22,7,6,5,0,1] rfl fun h18=>mv h18 rfl fun _ h19=>h19.sn [4,7,6,5,0,1] rfl fun h20=>hK5 _ _<|wp_ret ?_
 try simp only [Exit.then,Exit.inBlock]
 refine Bn (v:=ν 0) (Cf h20 rfl rfl) h20.defs ?_
 exact ⟨rfl,Sep.tail_un (xs:=[_,_,_]) s2⟩
theorem Eb {w:World} {cf ob:Nat} {F:FsM} {A:AdM} {R:List Ch} {δ:Nat→Int} (hS0:Sep w ((cP cf ob F A)++R)) (hok:FsC F δ) (hz:SmF F) {n0 m0:Nat} (hn0:n0<F.N.length) (hm0:m0<F.N.length) :
  CallsR Tryz.prog 79 #[π (A.ad n0),π (A.ad m0)] w (fun v w'=>v=ν (BI F n0 m0)∧Sep w' ((cP cf ob F A)++R)):=by
 have hS:=Sep.tail_many (xs:=cP cf ob F A) hS0;clear hS0
 have hz0:=hz;obtain ⟨hz1,hz2,hz3⟩:F.N.length≤1000∧F.E.length≤1000∧F.O.length≤1000:=hz
 refine AB Tryz.func79 rfl (N:=49) Tryz.ntmps79 (by show 2≤49;decide) [(0,π (A.ad n0)),(1,π (A.ad m0))] rfl fun _ h1=>sqr fun _ hK3=>mv h1 rfl fun _ h4=>wpList_nil<|hK3 _ _<|sq fun _ hK6=>wp_block ?_
 refine sqr fun _ hK7=>mvs 2 h4 rfl fun _ h2=>sw1 h2 rfl (GG h2 rfl rfl rfl (NdP.eq (F:=FsM.nE F) (A:=AdM.nC A) (j:=m0) (k:=n0) (hS.get 1 rfl:NdP _ _ _) (show m0<F.N.length from ω) (show n0<F.N.length from ω) _ _)) fun _ h3=>mv h3 rfl fun _ h5=>h5.sn [5,4,0,1] rfl fun h6=>hK7 _ _ ?_
 rcases bC (decide (m0=n0)) with hc1 | hc1
 ·skip
  have hp1:m0=n0:=(dT hc1)
  refine wcT h6 rfl hc1<|h6.sk [4,0,1] rfl fun h7=>sqr fun _ hK1=>h7.sk [0,1] rfl fun h8=>mv h8 rfl fun _ h9=>wpList_nil<|hK1 _ _<|wp_ret ?_
  try simp only [Exit.then,Exit.inBlock]
  refine Bn (v:=ν 0) (Cf h9 rfl rfl) h9.defs ?_
  have hq:BI F n0 m0=0:=by unfold BI;rw [if_pos (dT hc1)]
  exact ⟨by rw [hq],Sep.tail_un (xs:=[_,_,_]) hS⟩
 ·skip
  have hp2:¬ (m0=n0):=(dF hc1)
  refine wcF h6 rfl hc1<|h6.sk [4,0,1] rfl fun h10=>sqr fun _ hK2=>mvs 2 h10 rfl fun _ h11=>sv1 h11 rfl (rfa h11 rfl rfl (fun w=>Ay (A.ad n0) 0 w)) fun _ h12=>sw1 h12 rfl (rld h12 rfl rfl (NdP.c0 (F:=FsM.nE F) (A:=AdM.nC A) (k:=n0) (hS.get 1 rfl:NdP _ _ _) (show n0<F.N.length from ω) υ3 rfl)) fun _ h13=>bv h13 (z:=.bool (F.dir n0)) rfl (cEq _ _ _ _ (GZ _)) fun _ h14=>mv h14 rfl fun _ h15=>sg h15 (wT h15 rfl rfl rfl) rfl rfl rfl (fun hC1=>(Ap h15 rfl rfl) _) fun _ h16=>sg h16 (wT h16 rfl rfl rfl) rfl rfl rfl (fun hC2=>(Cu h16 rfl (opg rfl hC2)) _) fun _ h17=>?_
  refine sg h17 (wT h17 rfl rfl rfl) rfl rfl rfl (fun hC3=>(rfa h17 rfl (opg rfl hC3) (fun w=>Ay (A.ad m0) 0 w)) _) fun _ h18=>sg h18 (wT h18 rfl rfl rfl) rfl rfl rfl (fun hC4=>(rld h18 rfl (opg rfl hC4) (NdP.c0 (F:=FsM.nE F) (A:=AdM.nC A) (k:=m0) (hS.get 1 rfl:NdP _ _ _) (show m0<F.N.length from ω) υ3 rfl))) fun _ h19=>sg h19 (wT h19 rfl rfl rfl) rfl rfl rfl (fun hC5=>(BG h19 rfl (opg rfl hC5) rfl (cEq _ _ _ _ (Kh _))) _) fun _ h20=>sv1 h20 rfl (DJ h20 rfl (E:=(F.dir n0)) (F:=(!(F.dir m0))) rfl rfl rfl (fun e=>if_pos (by rw [e];try rfl))) fun _ h21=>mv h21 rfl fun _ h22=>h22.sn [9,4,0,1] rfl fun h23=>hK2 _ _ ?_
  rcases bC ((F.dir n0)&&(!(F.dir m0))) with hc2 | hc2
  ·skip
   have hp3:((F.dir n0)=true)∧((F.dir m0)=false):=(And.intro (AA hc2).1 (Bb (AA hc2).2))
   refine wcT h23 rfl hc2<|h23.sk [4,0,1] rfl fun h24=>sqr fun _ hK4=>h24.sk [0,1] rfl fun h25=>mv h25 rfl fun _ h26=>wpList_nil<|hK4 _ _<|wp_ret ?_
   try simp only [Exit.then,Exit.inBlock]
   refine Bn (v:=ν 12) (Cf h26 rfl rfl) h26.defs ?_
   have hq:BI F n0 m0=12:=by unfold BI;rw [if_neg (dF hc1),if_pos (show F.dir n0=true∧F.dir m0=false from ⟨(AA hc2).1,(Bb (AA hc2).2)⟩)]
   exact ⟨by rw [hq],Sep.tail_un (xs:=[_,_,_]) hS⟩
  ·skip
   have hp4:((F.dir n0)=false)∨((F.dir m0)=true):=((Ix hc2).imp (fun q=>q) (fun q=>(Ey q)))
   refine wcF h23 rfl hc2<|h23.sk [4,0,1] rfl fun h27=>sqr fun _ hK5=>mvs 2 h27 rfl fun _ h28=>sv1 h28 rfl (rfa h28 rfl rfl (fun w=>Ay (A.ad n0) 0 w)) fun _ h29=>sw1 h29 rfl (rld h29 rfl rfl (NdP.c0 (F:=FsM.nE F) (A:=AdM.nC A) (k:=n0) (hS.get 1 rfl:NdP _ _ _) (show n0<F.N.length from ω) υ3 rfl)) fun _ h30=>bv h30 (z:=.bool (F.dir n0)) rfl (cEq _ _ _ _ (GZ _)) fun _ h31=>mv h31 rfl fun _ h32=>sg h32 (wT h32 rfl rfl rfl) rfl rfl rfl (fun hC6=>(Ap h32 rfl rfl) _) fun _ h33=>sg h33 (wT h33 rfl rfl rfl) rfl rfl rfl (fun hC7=>(Cu h33 rfl (opg rfl hC7)) _) fun _ h34=>?_
   refine sg h34 (wT h34 rfl rfl rfl) rfl rfl rfl (fun hC8=>(rfa h34 rfl (opg rfl hC8) (fun w=>AF (A.ad m0) 0 w)) _) fun _ h35=>?_
   rcases bC (F.dir n0) with hc3 | hc3
   ·skip
    rcases bC (F.dir m0) with hc4 | hc4
    ·skip
     refine sw h35 ((wT h35 rfl rfl rfl).trans hc3) rfl rfl rfl (rld h35 rfl (opg rfl hc3) (NdP.c3 (F:=FsM.nE F) (A:=AdM.nC A) (k:=m0) (hS.get 1 rfl:NdP _ _ _) (show m0<F.N.length from ω) hc4 υ95 rfl)) fun _ h36=>sw h36 ((wT h36 rfl rfl rfl).trans hc3) rfl rfl rfl (NJ (F:=F) (A:=A) (k:=m0) h36 rfl rfl (hS.get 1 rfl:NdP _ _ _) hok ω hc4) fun _ h37=>sv h37 ((wT h37 rfl rfl rfl).trans hc3) rfl rfl rfl (BG h37 rfl rfl rfl (cGt _ _ _ _ rfl)) fun _ h38=>sv1 h38 rfl (BT h38 rfl (E:=(F.dir n0)) (b:=true) rfl hc3 rfl) fun _ h39=>mv h39 rfl fun _ h40=>h40.sn [22,4,0,1] rfl fun h41=>hK5 _ _ ?_
     rcases bC (decide (((BH F.E m0:Nat):Int)>0)) with hc5 | hc5
     ·skip
      have hp5:((BH F.E m0:Nat):Int)>0:=(dT hc5)
      refine wcT h41 rfl hc5<|h41.sk [4,0,1] rfl fun h42=>sqr fun _ hK8=>h42.sk [0,1] rfl fun h43=>mv h43 rfl fun _ h44=>wpList_nil<|hK8 _ _<|wp_ret ?_
      try simp only [Exit.then,Exit.inBlock]
      refine Bn (v:=ν 14) (Cf h44 rfl rfl) h44.defs ?_
      have hq:BI F n0 m0=14:=by unfold BI;rw [if_neg (dF hc1),if_neg (show ¬ (F.dir n0=true∧F.dir m0=false) from (fun q=>AH q.2 hc4)),if_pos (show F.dir n0=true∧0<BH F.E m0 from ⟨hc3,ω⟩)]
      exact ⟨by rw [hq],Sep.tail_un (xs:=[_,_,_]) hS⟩
     ·skip
      have hp6:¬ (((BH F.E m0:Nat):Int)>0):=(dF hc5)
      refine wcF h41 rfl hc5<|h41.sk [4,0,1] rfl fun h45=>sqr fun _ hK9=>mvs 2 h45 rfl fun _ h46=>sv1 h46 rfl (rfa h46 rfl rfl (fun w=>Ay (A.ad n0) 0 w)) fun _ h47=>sw1 h47 rfl (rld h47 rfl rfl (NdP.c0 (F:=FsM.nE F) (A:=AdM.nC A) (k:=n0) (hS.get 1 rfl:NdP _ _ _) (show n0<F.N.length from ω) υ3 rfl)) fun _ h48=>bv h48 (z:=.bool (!(F.dir n0))) rfl (cEq _ _ _ _ (Kh _)) fun _ h49=>mv h49 rfl fun _ h50=>su h50 ((wT h50 rfl rfl rfl).trans (Bq hc3)) rfl rfl rfl fun _ h51=>su h51 ((wT h51 rfl rfl rfl).trans (Bq hc3)) rfl rfl rfl fun _ h52=>?_
      refine su h52 ((wT h52 rfl rfl rfl).trans (Bq hc3)) rfl rfl rfl fun _ h53=>su h53 ((wT h53 rfl rfl rfl).trans (Bq hc3)) rfl rfl rfl fun _ h54=>su h54 ((wT h54 rfl rfl rfl).trans (Bq hc3)) rfl rfl rfl fun _ h55=>sv1 h55 rfl (BT h55 rfl (E:=(!(F.dir n0))) (b:=false) rfl (Bq hc3) rfl) fun _ h56=>mv h56 rfl fun _ h57=>h57.sn [36,4,0,1] rfl fun h58=>hK9 _ _<|wcF h58 rfl rfl<|h58.sk [4,0,1] rfl fun h59=>wp_skip<|hK6 _ _ ?_
      refine sqr fun _ hK10=>h59.sk [0,1] rfl fun h60=>mv h60 rfl fun _ h61=>wpList_nil<|hK10 _ _<|wp_ret ?_
      try simp only [Exit.then,Exit.inBlock]
      refine Bn (v:=ν 0) (Cf h61 rfl rfl) h61.defs ?_
      have hq:BI F n0 m0=0:=by unfold BI;rw [if_neg (dF hc1),if_neg (show ¬ (F.dir n0=true∧F.dir m0=false) from (fun q=>AH q.2 hc4)),if_neg (show ¬ (F.dir n0=true∧0<BH F.E m0) from (fun q=>absurd q.2 ω)),if_neg (show ¬ (F.dir n0=false∧F.dir m0=true) from (fun q=>AH q.1 hc3))]
      exact ⟨by rw [hq],Sep.tail_un (xs:=[_,_,_]) hS⟩
    ·skip
     refine sw h35 ((wT h35 rfl rfl rfl).trans hc3) rfl rfl rfl (rld h35 rfl (opg rfl hc3) (NdP.c3n (F:=FsM.nE F) (A:=AdM.nC A) (k:=m0) (hS.get 1 rfl:NdP _ _ _) (show m0<F.N.length from ω) hc4 υ95 rfl)) fun _ h62=>sv h62 ((wT h62 rfl rfl rfl).trans hc3) rfl rfl rfl (RZ h62 rfl rfl) fun _ h63=>sv h63 ((wT h63 rfl rfl rfl).trans hc3) rfl rfl rfl (BG h63 rfl rfl rfl (cGt _ _ _ _ rfl)) fun _ h64=>sv1 h64 rfl (BT h64 rfl (E:=(F.dir n0)) (b:=true) rfl hc3 rfl) fun _ h65=>mv h65 rfl fun _ h66=>h66.sn [22,4,0,1] rfl fun h67=>hK5 _ _<|wcF h67 rfl rfl<|h67.sk [4,0,1] rfl fun h68=>sq fun _ hK11=>wp_region_lit ?_
     refine mvs 2 h68 rfl fun _ h69=>sv1 h69 rfl (rfa h69 rfl rfl (fun w=>Ay (A.ad n0) 0 w)) fun _ h70=>sw1 h70 rfl (rld h70 rfl rfl (NdP.c0 (F:=FsM.nE F) (A:=AdM.nC A) (k:=n0) (hS.get 1 rfl:NdP _ _ _) (show n0<F.N.length from ω) υ3 rfl)) fun _ h71=>bv h71 (z:=.bool (!(F.dir n0))) rfl (cEq _ _ _ _ (Kh _)) fun _ h72=>mv h72 rfl fun _ h73=>su h73 ((wT h73 rfl rfl rfl).trans (Bq hc3)) rfl rfl rfl fun _ h74=>su h74 ((wT h74 rfl rfl rfl).trans (Bq hc3)) rfl rfl rfl fun _ h75=>su h75 ((wT h75 rfl rfl rfl).trans (Bq hc3)) rfl rfl rfl fun _ h76=>su h76 ((wT h76 rfl rfl rfl).trans (Bq hc3)) rfl rfl rfl fun _ h77=>su h77 ((wT h77 rfl rfl rfl).trans (Bq hc3)) rfl rfl rfl fun _ h78=>?_
     refine sv1 h78 rfl (BT h78 rfl (E:=(!(F.dir n0))) (b:=false) rfl (Bq hc3) rfl) fun _ h79=>mv h79 rfl fun _ h80=>h80.sn [36,4,0,1] rfl fun h81=>hK11 _ _<|wcF h81 rfl rfl<|h81.sk [4,0,1] rfl fun h82=>wp_skip<|hK6 _ _<|sqr fun _ hK12=>h82.sk [0,1] rfl fun h83=>mv h83 rfl fun _ h84=>?_
     refine wpList_nil<|hK12 _ _<|wp_ret ?_
     try simp only [Exit.then,Exit.inBlock]
     refine Bn (v:=ν 0) (Cf h84 rfl rfl) h84.defs ?_
     exact (hp4.elim (fun z=>AH z hc3) (fun z=>AH hc4 z)).elim
   ·skip
    refine su h35 ((wT h35 rfl rfl rfl).trans hc3) rfl rfl rfl fun _ h85=>su h85 ((wT h85 rfl rfl rfl).trans hc3) rfl rfl rfl fun _ h86=>su h86 ((wT h86 rfl rfl rfl).trans hc3) rfl rfl rfl fun _ h87=>sv1 h87 rfl (BT h87 rfl (E:=(F.dir n0)) (b:=false) rfl hc3 rfl) fun _ h88=>mv h88 rfl fun _ h89=>h89.sn [22,4,0,1] rfl fun h90=>hK5 _ _<|wcF h90 rfl rfl<|h90.sk [4,0,1] rfl fun h91=>sq fun _ hK13=>wp_region_lit ?_
    refine mvs 2 h91 rfl fun _ h92=>sv1 h92 rfl (rfa h92 rfl rfl (fun w=>Ay (A.ad n0) 0 w)) fun _ h93=>sw1 h93 rfl (rld h93 rfl rfl (NdP.c0 (F:=FsM.nE F) (A:=AdM.nC A) (k:=n0) (hS.get 1 rfl:NdP _ _ _) (show n0<F.N.length from ω) υ3 rfl)) fun _ h94=>bv h94 (z:=.bool (!(F.dir n0))) rfl (cEq _ _ _ _ (Kh _)) fun _ h95=>mv h95 rfl fun _ h96=>sv h96 ((wT h96 rfl rfl rfl).trans (BC hc3)) rfl rfl rfl (Ap h96 rfl rfl) fun _ h97=>sv h97 ((wT h97 rfl rfl rfl).trans (BC hc3)) rfl rfl rfl (Cu h97 rfl rfl) fun _ h98=>sv h98 ((wT h98 rfl rfl rfl).trans (BC hc3)) rfl rfl rfl (rfa h98 rfl rfl (fun w=>Ay (A.ad m0) 0 w)) fun _ h99=>sw h99 ((wT h99 rfl rfl rfl).trans (BC hc3)) rfl rfl rfl (rld h99 rfl rfl (NdP.c0 (F:=FsM.nE F) (A:=AdM.nC A) (k:=m0) (hS.get 1 rfl:NdP _ _ _) (show m0<F.N.length from ω) υ3 rfl)) fun _ h100=>sv h100 ((wT h100 rfl rfl rfl).trans (BC hc3)) rfl rfl rfl (BG h100 rfl rfl rfl (cEq _ _ _ _ (GZ _))) fun _ h101=>?_
    refine sv1 h101 rfl (BT h101 rfl (E:=(!(F.dir n0))) (b:=true) rfl (BC hc3) rfl) fun _ h102=>mv h102 rfl fun _ h103=>h103.sn [36,4,0,1] rfl fun h104=>hK13 _ _ ?_
    rcases bC (F.dir m0) with hc6 | hc6
    ·skip
     refine wcT h104 rfl hc6<|h104.sk [4,0,1] rfl fun h105=>sqr fun _ hK14=>h105.sk [0,1] rfl fun h106=>mv h106 rfl fun _ h107=>wpList_nil<|hK14 _ _<|wp_ret ?_
     try simp only [Exit.then,Exit.inBlock]
     refine Bn (v:=ν 13) (Cf h107 rfl rfl) h107.defs ?_
     have hq:BI F n0 m0=13:=by unfold BI;rw [if_neg (dF hc1),if_neg (show ¬ (F.dir n0=true∧F.dir m0=false) from (fun q=>AH hc3 q.1)),if_neg (show ¬ (F.dir n0=true∧0<BH F.E m0) from (fun q=>AH hc3 q.1)),if_pos (show F.dir n0=false∧F.dir m0=true from ⟨hc3,hc6⟩)]
     exact ⟨by rw [hq],Sep.tail_un (xs:=[_,_,_]) hS⟩
    ·skip
     refine wcF h104 rfl hc6<|h104.sk [4,0,1] rfl fun h108=>wp_skip<|hK6 _ _<|sqr fun _ hK15=>h108.sk [0,1] rfl fun h109=>mv h109 rfl fun _ h110=>wpList_nil<|hK15 _ _<|wp_ret ?_
     try simp only [Exit.then,Exit.inBlock]
     refine Bn (v:=ν 0) (Cf h110 rfl rfl) h110.defs ?_
     have hq:BI F n0 m0=0:=by unfold BI;rw [if_neg (dF hc1),if_neg (show ¬ (F.dir n0=true∧F.dir m0=false) from (fun q=>AH hc3 q.1)),if_neg (show ¬ (F.dir n0=true∧0<BH F.E m0) from (fun q=>AH hc3 q.1)),if_neg (show ¬ (F.dir n0=false∧F.dir m0=true) from (fun q=>AH hc6 q.2))]
     exact ⟨by rw [hq],Sep.tail_un (xs:=[_,_,_]) hS⟩
theorem Ku {w:World} {R:List Ch} (hS0:Sep w R) :
  CallsR Tryz.prog 46 #[] w (fun v w'=>∃ gn gm,v=π gn∧Sep w' (Ah gn 97 [ν 2,ν 1,σ [],.map (some gm)]::AM KN gm 0 (fun _=>none)::R)):=by
 have hS:Sep w [Ch.many R]:=Sep.tail_many (xs:=[]) hS0;clear hS0
 refine AB Tryz.func46 rfl (N:=4) Tryz.ntmps46 (by show 0≤4;decide) [] rfl fun _ h1=>sqr fun _ hK3=>mv h1 rfl fun _ h4=>wpList_nil<|hK3 _ _<|sqr fun _ hK6=>so (wn rfl) fun _ hK1=>KX KN h4 rfl rfl rfl rfl hS fun _ b7 w1 h8 s1 _ _=>hK1 _ _ ?_
 refine bu h8 (v:=.agg #[ν 2,ν 1,σ [],.map (some b7)]) rfl (fun w=>κ) fun _ h2=>so (wn rfl) fun _ hK2=>Cv h2 rfl rfl rfl rfl rfl (z:=[ν 2,ν 1,σ [],.map (some b7)]) rfl s1 fun _ g1 w2 h3 s2 _ _=>hK2 _ _ ?_
 refine h3.sk [3,2,1] rfl fun h5=>mv h5 rfl fun _ h6=>h6.sn [0] rfl fun h7=>hK6 _ _<|wp_ret ?_
 try simp only [Exit.then,Exit.inBlock]
 refine Bn (v:=π g1) (Cf h7 rfl rfl) h7.defs ?_
 exact ⟨g1,b7,rfl,Sep.tail_un (xs:=[_,_]) s2⟩
end
end Go.Proofs.YtcanemamnmmbcaaGreatDoor
