/- Parts of the proof. -/
import Derived.Laws.StructEq
import Derived.Test.YtcanemamnmmbcaaGreatDoorQak
namespace Go.Proofs.YtcanemamnmmbcaaGreatDoor
open Go.RowKit
set_option linter.unusedSimpArgs false
set_option linter.unusedVariables false
set_option linter.unusedSectionVars false
set_option maxRecDepth 100000
set_option maxHeartbeats 8000000
section
theorem ERw:ElemT Tryz.prog 74 76 6 64:=LA υ74 (z:=.agg #[ν 0,.string ⟨#[]⟩,ν 0,ν 0,ν 0,.string ⟨#[]⟩]) κ rfl ω
def Cm (r:RowM):List Value:=[ν r.dp,.string r.nm,ν r.cl,ν r.fd,ν r.fl,σ r.dt]
theorem Fh (r:RowM):(Cm r).length=6:=rfl
theorem NdP.tellsV {F:FsM} {A:AdM} {w:World} (h:NdP F.nE A.nC w) {V:List Nat} (hV:MkOk F V) {k:Nat} (hk:k<F.N.length):Kc w 62 (flL A V) (A.ad k):=by
 intro p hp
 obtain ⟨q,hq,rfl⟩:=List.mem_map.1 hp
 have hq:=List.mem_range.1 hq
 obtain ⟨v,hv⟩:∃ v,v=V.getD q 0:=⟨_,rfl⟩
 have hl:v<F.N.length:=hV.lt _ (by rw [hv,List.getD_eq_getElem?_getD,List.getElem?_eq_getElem hq];exact List.getElem_mem hq)
 obtain ⟨i,hi,hz⟩:=Kr
 rw [← hv]
 have key:∀ d,(Op.equalIn (d+1) 62 (π (A.ad k)) (π (A.ad v))).run Tryz.prog w=.ok (decide (A.ad k=A.ad v)) w:=fun d=>by
  by_cases e:k=v
  ·rw [← e]
   simp [Op.equalIn,run_underlying υ62,sizeOf,typeInfo,hi,hz,run_sameAddr_same]
  ·have e2:¬ A.ad k=A.ad v:=fun z=>e (h.inj _ _ hk hl z)
   have hne:(⟨A.ad k,0,none⟩:Addr)≠⟨A.ad v,0,none⟩:=fun z=>e2 (by injection z)
   simp [Op.equalIn,run_underlying υ62,sizeOf,typeInfo,hi,hz,run_sameAddr_other w hne (h.nd k hk) (h.nd v hl),e2]
 exact key 9999
theorem OD (w:World):(zeroValue 3).run Tryz.prog w=.ok (ν 0) w:=κ
section
variable {F:FsM} {A:AdM} {w:World} {V:List Nat} {k fb:Nat}
theorem OC (hN:NdP F.nE A.nC w) (hV:MkOk F V) (hk:k<F.N.length) (hm:¬ k∈V):Fb (flL A V) (A.ad k)=none:=by rw [OB (A:=A) hV hN.inj hk,if_neg hm]
theorem Kk (hP:PMap iV w fb (flL A V)) (hN:NdP F.nE A.nC w) (hV:MkOk F V) (hk:k<F.N.length) (hm:k∈V) {ix:Nat} (e:V.idxOf k=ix):(Instr.lookup 99 (.map (some fb)) (pV (A.ad k)) false).run Tryz.prog w=.ok (ν ((ix+1:Nat):Int)) w:=by
 have z:=hP.look υ99 υ62 (OD w) (hN.tellsV hV hk)
 rw [OB (A:=A) hV hN.inj hk,if_pos hm,e] at z;exact z
theorem To (hP:PMap iV w fb (flL A V)) (hN:NdP F.nE A.nC w) (hV:MkOk F V) (hk:k<F.N.length) (hm:¬ k∈V):(Instr.lookup 99 (.map (some fb)) (pV (A.ad k)) false).run Tryz.prog w=.ok (ν 0) w:=by
 have z:=hP.look υ99 υ62 (OD w) (hN.tellsV hV hk)
 rw [OC hN hV hk hm] at z;exact z
end
theorem TB {α:Type} {av:α→Value} {L:List (Nat×α)} {o:Oper} {a:Act} {N:Nat} {l:List (Nat×Value)} {b:Nat} {w:World} (h:Kn N l a) {x:Operand} {T kt el:TypeId} (ho:o.op=.call { callee:=.builtin .len,args:=#[x],argTypes:=#[T] }) (hx:opv l x=some (.map (some b))) (hP:PMap av w b L) (hT:Tryz.prog.underlying T=some (.map kt el)) {n:Nat} (hl:L.length=n):(execOp a.eval o).run Tryz.prog w=.ok (.value (ν (n:Int))) w:=by
 subst hl
 refine FK h (xs:=[x]) (vs:=[.map (some b)]) ho (by simp [hx]) fun cs=>?_
 show (builtin .len #[T] o.type cs #[.map (some b)]).run Tryz.prog w=_
 simp only [builtin,Sem.run_bind,hP.len (ty:=o.type) hT]
 rfl
theorem Lt (F:FsM) (n:Nat) (r:RowM) (k:Nat) (t:Rows) {L:List ByteArray} {j:Nat} (hj:j<L.length):Dv F n (Fu r (L.getD j AL)) (Au F k (L.getD j AL)) (addL F n r k (L.take j) t)=addL F n r k (L.take (j+1)) t:=by
 rw [← Pa,List.take_succ_eq_append_getElem hj,List.getD_eq_getElem?_getD,List.getElem?_eq_getElem hj];rfl
def Sp (w:World) (f:Value):Prop:=∃ w0:World,w=w0.alloc (.cells #[.map none] 95)∧f=.func (.func 107) #[] #[π w0.heap.size]
theorem RY {w:World} {R:List Ch} (hS:Sep w R):CallsR Tryz.prog 92 #[.map none] w fun v w'=>Sep w' R∧Sp w' v:=by
 refine ((callsIn_wide (n:=5)).1 (GQ none w)).mono ?_
 rintro e w' ⟨rfl,rfl⟩
 exact ⟨_,rfl,hS.mono (Mw _ _),w,rfl,rfl⟩
theorem PV {w:World} {R:List Ch} {f:Value} (hS:Sep w R) (h:Sp w f):CallsR Tryz.prog 91 #[f] w fun v w'=>v=.slice none 0 0∧Sep w' R:=by
 obtain ⟨w0,rfl,rfl⟩:=h
 refine ((callsIn_wide (n:=5)).1 (EL w0)).mono ?_
 rintro e w' ⟨v,ss,rfl,hs,_,hn,hb⟩
 exact ⟨_,rfl,hn.2 hs,hS.mono hb⟩
theorem DV (g off:Nat) (w:World):(Instr.fieldAt 101 (.pointer (some ⟨g,off,none⟩)) 0).run Tryz.prog w=.ok (.pointer (some ⟨g,off+0,none⟩)) w:=rfl
theorem Fa (g off:Nat) (w:World):(Instr.fieldAt 101 (.pointer (some ⟨g,off,none⟩)) 1).run Tryz.prog w=.ok (.pointer (some ⟨g,off+1,none⟩)) w:=rfl
theorem FE (g off:Nat) (w:World):(Instr.fieldAt 76 (.pointer (some ⟨g,off,none⟩)) 3).run Tryz.prog w=.ok (.pointer (some ⟨g,off+4,none⟩)) w:=rfl
theorem Et (g off:Nat) (w:World):(Instr.fieldAt 76 (.pointer (some ⟨g,off,none⟩)) 4).run Tryz.prog w=.ok (.pointer (some ⟨g,off+5,none⟩)) w:=rfl
theorem DW (g off:Nat) (w:World):(Instr.fieldAt 101 (.pointer (some ⟨g,off,none⟩)) 0).run Tryz.prog w=.ok (.pointer (some ⟨g,off+0,none⟩)) w:=rfl
theorem Dn (g off:Nat) (w:World):(Instr.fieldAt 101 (.pointer (some ⟨g,off,none⟩)) 1).run Tryz.prog w=.ok (.pointer (some ⟨g,off+1,none⟩)) w:=rfl
theorem FF (g off:Nat) (w:World):(Instr.fieldAt 76 (.pointer (some ⟨g,off,none⟩)) 3).run Tryz.prog w=.ok (.pointer (some ⟨g,off+4,none⟩)) w:=rfl
theorem Eu (g off:Nat) (w:World):(Instr.fieldAt 76 (.pointer (some ⟨g,off,none⟩)) 4).run Tryz.prog w=.ok (.pointer (some ⟨g,off+5,none⟩)) w:=rfl
theorem IK (g off:Nat) (w:World):(Instr.fieldAt 76 (.pointer (some ⟨g,off,none⟩)) 0).run Tryz.prog w=.ok (.pointer (some ⟨g,off+0,none⟩)) w:=rfl
theorem GS (args:Array Value) (w:World):(callFunc 60 args).run Tryz.prog w=.ok (.enter 60 args) w:=by
 have h:=Tryz.func60
 go_simp
theorem Ei (g off:Nat) (w:World):(Instr.fieldAt 101 (.pointer (some ⟨g,off,none⟩)) 0).run Tryz.prog w=.ok (.pointer (some ⟨g,off+0,none⟩)) w:=rfl
theorem LS {w:World} {cf ob:Nat} {F:FsM} {A:AdM} {R:List Ch} {δ:Nat→Int} {k0:Nat} (hS0:Sep w ((cP cf ob F A)++R)) (hok:FsC F δ) (hz:SmF F) (hk0:k0<F.N.length) (hd0:F.dir k0=false) :
  CallsR Tryz.prog 80 #[π (A.ad k0)] w (fun v w'=>v=.slice none 0 0∧Sep w' ((cP cf ob F A)++R)):=by
 have hS:=Sep.tail_many (xs:=cP cf ob F A) hS0;clear hS0
 have hz0:=hz;obtain ⟨hz1,hz2,hz3⟩:F.N.length≤1000∧F.E.length≤1000∧F.O.length≤1000:=hz
 refine AE Tryz.func80 rfl (N:=9) Tryz.ntmps80 (by show 1≤9;decide) [(0,π (A.ad k0))] rfl fun _ h1=>sqr fun _ hK3=>mv h1 rfl fun _ h4=>wpList_nil<|hK3 _ _<|sqr fun _ hK6=>mvs 2 h4 rfl fun _ h9=>sv1 h9 rfl (v:=.pointer (some ⟨(A.ad k0),3,none⟩)) (rfa h9 rfl rfl (fun w=>AQ (A.ad k0) 0 w)) fun _ h2=>sw1 h2 rfl (v:=.map none) (rld h2 rfl rfl (NdP.c3n (F:=FsM.nE F) (A:=AdM.nC A) (k:=k0) (hS.get 1 rfl:NdP _ _ _) (show k0<F.N.length from ω) hd0 υ95 rfl)) fun _ h3=>cl h3 rfl BP (RY hS) fun _ v1 w1 r1 h5=>?_
 obtain ⟨s1,hky21⟩:=r1
 refine cl h5 rfl EA (PV s1 hky21) fun _ v2 w2 r2 h6=>?_
 obtain ⟨rfl,s2⟩:=r2
 refine h6.sk [8,7,6,5,4,3,0] rfl fun h7=>mv h7 rfl fun _ h8=>h8.sn [2,0] rfl fun h10=>hK6 _ _<|wp_ret ?_
 try simp only [Exit.then,Exit.inBlock]
 refine Bi (v:=.slice none 0 0) (Ce h10 rfl rfl) h10.defs ?_
 exact ⟨rfl,Sep.tail_un (xs:=[_,_,_]) s2⟩
theorem Ql {w:World} {cf ob:Nat} {F:FsM} {A:AdM} {R:List Ch} {δ:Nat→Int} {sg fb:Nat} {ra:Option Addr} {rc:Nat} {s:Rows} {r:RowM} {k:Nat} (hS0:Sep w ([Ah sg 101 [.slice ra s.1.length rc,.map (some fb)],Ai 0 76 6 ra s.1.length rc (s.1.flatMap Cm),pmC iV fb (flL A s.2),Ah cf 65 [π (A.ad 0),.map (some ob)],AO F A,AP KO ob A.C (opG F A)]++R)) (hok:FsC F δ) (hz:SmF F) (hkl:k<F.N.length) (hMk:MkOk F s.2) (hd:F.dir k=false) (hm:k∈s.2) (hr:s.1.length≤4000) :
  CallsR Tryz.prog 60 #[π sg,.agg #[ν r.dp,.string r.nm,ν r.cl,ν r.fd,ν r.fl,σ r.dt],π (A.ad k)] w (fun v w'=>∃ ra' rc',v=.tuple #[]∧Sep w' ([Ah sg 101 [.slice ra' ((Cu F r k s).1.length) rc',.map (some fb)],Ai 0 76 6 ra' ((Cu F r k s).1).length rc' (((Cu F r k s).1).flatMap Cm),pmC iV fb (flL A (Cu F r k s).2),Ah cf 65 [π (A.ad 0),.map (some ob)],AO F A,AP KO ob A.C (opG F A)]++R)):=by
 have hS:Sep w [Ah sg 101 [.slice ra s.1.length rc,.map (some fb)],Ai 0 76 6 ra s.1.length rc (s.1.flatMap Cm),pmC iV fb (flL A s.2),Ah cf 65 [π (A.ad 0),.map (some ob)],AO F A,AP KO ob A.C (opG F A),Ch.many R]:=Sep.tail_many (xs:=[_,_,_,_,_,_]) hS0;clear hS0
 have hz0:=hz;obtain ⟨hz1,hz2,hz3⟩:F.N.length≤1000∧F.E.length≤1000∧F.O.length≤1000:=hz
 have hMl:=hMk.len
 obtain ⟨ix,hix⟩:∃ x,s.2.idxOf k=x:=⟨_,rfl⟩
 refine AE Tryz.func60 rfl (N:=74) Tryz.ntmps60 (by show 3≤74;decide) [(0,π sg),(1,.agg #[ν r.dp,.string r.nm,ν r.cl,ν r.fd,ν r.fl,σ r.dt]),(2,π (A.ad k))] rfl fun _ h1=>sqr fun _ hK3=>so (wn rfl) fun _ hK1=>Dc h1 rfl rfl rfl rfl rfl (z:=[ν r.dp,.string r.nm,ν r.cl,ν r.fd,ν r.fl,σ r.dt]) rfl hS fun _ g4 w7 h5 s8 _ _=>hK1 _ _ ?_
 refine wpList_nil<|hK3 _ _<|sq fun K1 hK2=>?_
 have hJ13:∀  a' w',Kn 74 [(4,π g4),(0,π sg),(1,.agg #[ν r.dp,.string r.nm,ν r.cl,ν r.fd,ν r.fl,σ r.dt]),(2,π (A.ad k))] a'→Sep w' [Ah g4 76 [ν r.dp,.string r.nm,ν r.cl,ν r.fd,ν ((ix+1:Nat):Int),σ ((F.at k).data)],Ah sg 101 [.slice ra s.1.length rc,.map (some fb)],Ai 0 76 6 ra s.1.length rc (s.1.flatMap Cm),pmC iV fb (flL A s.2),Ah cf 65 [π (A.ad 0),.map (some ob)],AO F A,AP KO ob A.C (opG F A),Ch.many R]→K1 a' w':=by
  intro a1 w2 h2 s1
  refine hK2 _ _ ?_
  refine sq fun K2 hK4=>?_
  have hJ19:∀ (p5:Option Addr) (c5:Nat) a' w',Kn 74 [(4,π g4),(0,π sg),(1,.agg #[ν r.dp,.string r.nm,ν r.cl,ν r.fd,ν r.fl,σ r.dt]),(2,π (A.ad k))] a'→Sep w' [Ah g4 76 [ν r.dp,.string r.nm,ν r.cl,ν r.fd,ν ((ix+1:Nat):Int),σ ((F.at k).data)],Ah sg 101 [.slice p5 ((s.1++[(⟨r.dp,r.nm,r.cl,r.fd,((ix+1:Nat):Int),(F.at k).data⟩:RowM)]).length) c5,.map (some fb)],Ai 0 76 6 p5 (s.1++[(⟨r.dp,r.nm,r.cl,r.fd,((ix+1:Nat):Int),(F.at k).data⟩:RowM)]).length c5 ((s.1++[(⟨r.dp,r.nm,r.cl,r.fd,((ix+1:Nat):Int),(F.at k).data⟩:RowM)]).flatMap Cm),pmC iV fb (flL A s.2),Ah cf 65 [π (A.ad 0),.map (some ob)],AO F A,AP KO ob A.C (opG F A),Ch.many R]→K2 a' w':=by
   intro p5 c5 a2 w3 h3 s2
   refine hK4 _ _ ?_
   refine sqr fun _ hK5=>mv h3 rfl fun _ h4=>cl h4 rfl Dm (LS (cf:=cf) (A:=A) (F:=F) (s2.pk [4,5,6,0,1,2,3,7] rfl) hok hz0 hkl hd) fun _ v1 w4 r1 h6=>?_
   obtain ⟨rfl,s3⟩:=r1
   refine sv1 h6 rfl (v:=ν 0) (CR h6 rfl rfl υ33) fun _ h7=>mv h7 rfl fun _ h8=>h8.sn [56,55,54,4,0,1,2] rfl fun h9=>hK5 _ _<|wp_block ?_
   refine DK (fun (z:Nat) a' w'=>Kn 74 [(56,ν 0),(55,ν 0),(54,.slice none 0 0),(4,π g4),(0,π sg),(1,.agg #[ν r.dp,.string r.nm,ν r.cl,ν r.fd,ν r.fl,σ r.dt]),(2,π (A.ad k))] a'∧Sep w' [Ah cf 65 [π (A.ad 0),.map (some ob)],AO F A,AP KO ob A.C (opG F A),Ah g4 76 [ν r.dp,.string r.nm,ν r.cl,ν r.fd,ν ((ix+1:Nat):Int),σ ((F.at k).data)],Ah sg 101 [.slice p5 ((s.1++[(⟨r.dp,r.nm,r.cl,r.fd,((ix+1:Nat):Int),(F.at k).data⟩:RowM)]).length) c5,.map (some fb)],Ai 0 76 6 p5 (s.1++[(⟨r.dp,r.nm,r.cl,r.fd,((ix+1:Nat):Int),(F.at k).data⟩:RowM)]).length c5 ((s.1++[(⟨r.dp,r.nm,r.cl,r.fd,((ix+1:Nat):Int),(F.at k).data⟩:RowM)]).flatMap Cm),pmC iV fb (flL A s.2),Ch.many R]) (fun (z:Nat)=>0) 0 ⟨h9.subs rfl,s3⟩ ?_
   rintro z44 a3 w5 ⟨h10,s4⟩ K3 hK6
   refine sqr fun _ hK7=>bv h10 rfl (cLt _ _ _ _ rfl) fun _ h11=>wpList_nil<|hK7 _ _<|sq fun _ hK8=>wcF h11 rfl rfl<|h11.sk [56,55,54,4,0,1,2] rfl fun h12=>wp_exit ?_
   simp only [Exit.then,Exit.inBlock,↓reduceIte,Nat.reduceEqDiff]
   refine Nz (v:=.tuple #[]) (fun _=>NX rfl _) h12.defs ?_
   rw [Pw hd r s hm,hix]
   exact ⟨_,_,rfl,Sep.tail_un (xs:=[_,_,_,_,_,_]) (s4.pk [4,5,6,0,1,2,7] rfl)⟩
  have s5:=s1.drew
  refine wp_region_held_drew (S:=fun w'=>Sep w' [Ah g4 76 [ν r.dp,.string r.nm,ν r.cl,ν r.fd,ν ((ix+1:Nat):Int),σ ((F.at k).data)],pmC iV fb (flL A s.2),Ah cf 65 [π (A.ad 0),.map (some ob)],AO F A,AP KO ob A.C (opG F A),Ch.many R]) κ (s5.pk [0,3,4,5,6,7] rfl) (fun hq1=>?_)
  refine tv1 hq1 h2 0 rfl rfl (v:=π sg) (fun w1 _=>(Aq h2 rfl rfl) w1) fun _ h13=>?_
  refine tv1 hq1 h13 1 rfl rfl (v:=π sg) (fun w1 _=>(Aq h13 rfl rfl) w1) fun _ h14=>?_
  refine tv1 hq1 h14 2 rfl rfl (v:=π sg) (fun w1 _=>(CJ h14 rfl rfl) w1) fun _ h15=>?_
  refine tv1 hq1 h15 3 rfl rfl (v:=π sg) (fun w1 _=>(rfa h15 rfl rfl (fun w=>DV sg 0 w)) w1) fun _ h16=>?_
  refine tv1 hq1 h16 5 rfl rfl (v:=.agg #[ν r.dp,.string r.nm,ν r.cl,ν r.fd,ν ((ix+1:Nat):Int),σ ((F.at k).data)]) (fun w1 hSw=>(rld h16 rfl rfl (ldA υ76 rfl (n:=6) κ (hSw.get 0 rfl:Blk _ _ _ _) rfl rfl))) fun _ h17=>?_
  refine wpAnyH_ready (rs:=[4,6]) κ (by simp) (toc rfl (wn rfl) (fun K4 hK9=>?_) (toc rfl (wn rfl) (fun K4 hK9=>?_) AllReadyH.nil))
  ·skip
   refine Cr h17 rfl rfl rfl (v:=.slice ra s.1.length rc) (w':=w2.drew) ((rld h17 rfl rfl (ldB υ74 rfl (s5.get 1 rfl:Blk _ _ _ _) rfl))) fun _ h18=>hK9 _ _ (s5.pk [0,3,4,5,6,7] rfl) fun hq2=>?_
   refine to_ 6 rfl (wn rfl) κ fun _ hK10=>Dd h18 rfl rfl rfl (E:=76) (xs:=[(0,.tmp 48)]) rfl (vs:=[(0,.agg #[ν r.dp,.string r.nm,ν r.cl,ν r.fd,ν ((ix+1:Nat):Int),σ ((F.at k).data)])]) rfl (z:=[ν r.dp,.string r.nm,ν r.cl,ν r.fd,ν ((ix+1:Nat):Int),σ ((F.at k).data)]) (fun _=>κ) s5 fun _ g1 w6 h19 s6 _ _=>?_
   refine hK10 _ _ (s6.pk [1,4,5,6,7,8] rfl) fun hq3=>?_
   refine to_ 7 rfl (wn rfl) κ fun _ hK11=>EQ Fh h19 rfl rfl rfl rfl ERw s6 3 rfl rfl 0 (y:=(⟨r.dp,r.nm,r.cl,r.fd,((ix+1:Nat):Int),(F.at k).data⟩:RowM)) rfl rfl rfl (by decide) ω (L':=s.1++[(⟨r.dp,r.nm,r.cl,r.fd,((ix+1:Nat):Int),(F.at k).data⟩:RowM)]) rfl fun _ p76 c77 w8 h20 s7=>?_
   have s9:=s7.pk [1,2,3,4,5,6,7,8] rfl;clear s7
   refine hK11 _ _ (s9.pk [0,3,4,5,6,7] rfl) fun hq4=>?_
   refine tv1 hq4 h20 8 rfl rfl (v:=π sg) (fun w1 _=>(CJ h20 rfl rfl) w1) fun _ h21=>?_
   refine tv1 hq4 h21 9 rfl rfl (v:=π sg) (fun w1 _=>(rfa h21 rfl rfl (fun w=>DV sg 0 w)) w1) fun _ h22=>?_
   refine to_ 10 rfl (wn rfl) κ fun _ hK12=>CV h22 rfl rfl s9 1 rfl rfl rfl [.slice p76 ((s.1++[(⟨r.dp,r.nm,r.cl,r.fd,((ix+1:Nat):Int),(F.at k).data⟩:RowM)]).length) c77] rfl κ rfl (by show 0+1≤2;decide) (L':=[.slice p76 ((s.1++[(⟨r.dp,r.nm,r.cl,r.fd,((ix+1:Nat):Int),(F.at k).data⟩:RowM)]).length) c77,.map (some fb)]) rfl (cs':=[Ah g4 76 [ν r.dp,.string r.nm,ν r.cl,ν r.fd,ν ((ix+1:Nat):Int),σ ((F.at k).data)],Ah sg 101 [.slice p76 ((s.1++[(⟨r.dp,r.nm,r.cl,r.fd,((ix+1:Nat):Int),(F.at k).data⟩:RowM)]).length) c77,.map (some fb)],Ai 0 76 6 p76 (s.1++[(⟨r.dp,r.nm,r.cl,r.fd,((ix+1:Nat):Int),(F.at k).data⟩:RowM)]).length c77 ((s.1++[(⟨r.dp,r.nm,r.cl,r.fd,((ix+1:Nat):Int),(F.at k).data⟩:RowM)]).flatMap Cm),pmC iV fb (flL A s.2),Ah cf 65 [π (A.ad 0),.map (some ob)],AO F A,AP KO ob A.C (opG F A),Ch.many R]) rfl fun _ w9 h23 s10 _=>?_
   refine hK12 _ _ (s10.pk [0,3,4,5,6,7] rfl) fun hq5=>h23.sk [4,0,1,2] rfl fun h24=>?_
   refine wpAnyH_done κ ?_ _
   exact hJ19 p76 c77 _ _ (h24.subs rfl) s10 
  ·skip
   refine Dd h17 rfl rfl rfl (E:=76) (xs:=[(0,.tmp 48)]) rfl (vs:=[(0,.agg #[ν r.dp,.string r.nm,ν r.cl,ν r.fd,ν ((ix+1:Nat):Int),σ ((F.at k).data)])]) rfl (z:=[ν r.dp,.string r.nm,ν r.cl,ν r.fd,ν ((ix+1:Nat):Int),σ ((F.at k).data)]) (fun _=>κ) s5 fun _ g2 w10 h25 s11 _ _=>hK9 _ _ (s11.pk [1,4,5,6,7,8] rfl) fun hq6=>?_
   refine to_ 4 rfl (wn rfl) κ fun _ hK13=>Cr h25 rfl rfl rfl (v:=.slice ra s.1.length rc) (w':=w10) ((rld h25 rfl rfl (ldB υ74 rfl (s11.get 2 rfl:Blk _ _ _ _) rfl))) fun _ h26=>hK13 _ _ (s11.pk [1,4,5,6,7,8] rfl) fun hq7=>?_
   refine to_ 7 rfl (wn rfl) κ fun _ hK14=>EQ Fh h26 rfl rfl rfl rfl ERw s11 3 rfl rfl 0 (y:=(⟨r.dp,r.nm,r.cl,r.fd,((ix+1:Nat):Int),(F.at k).data⟩:RowM)) rfl rfl rfl (by decide) ω (L':=s.1++[(⟨r.dp,r.nm,r.cl,r.fd,((ix+1:Nat):Int),(F.at k).data⟩:RowM)]) rfl fun _ p109 c110 w11 h27 s12=>?_
   have s13:=s12.pk [1,2,3,4,5,6,7,8] rfl;clear s12
   refine hK14 _ _ (s13.pk [0,3,4,5,6,7] rfl) fun hq8=>?_
   refine tv1 hq8 h27 8 rfl rfl (v:=π sg) (fun w1 _=>(CJ h27 rfl rfl) w1) fun _ h28=>?_
   refine tv1 hq8 h28 9 rfl rfl (v:=π sg) (fun w1 _=>(rfa h28 rfl rfl (fun w=>DV sg 0 w)) w1) fun _ h29=>?_
   refine to_ 10 rfl (wn rfl) κ fun _ hK15=>CV h29 rfl rfl s13 1 rfl rfl rfl [.slice p109 ((s.1++[(⟨r.dp,r.nm,r.cl,r.fd,((ix+1:Nat):Int),(F.at k).data⟩:RowM)]).length) c110] rfl κ rfl (by show 0+1≤2;decide) (L':=[.slice p109 ((s.1++[(⟨r.dp,r.nm,r.cl,r.fd,((ix+1:Nat):Int),(F.at k).data⟩:RowM)]).length) c110,.map (some fb)]) rfl (cs':=[Ah g4 76 [ν r.dp,.string r.nm,ν r.cl,ν r.fd,ν ((ix+1:Nat):Int),σ ((F.at k).data)],Ah sg 101 [.slice p109 ((s.1++[(⟨r.dp,r.nm,r.cl,r.fd,((ix+1:Nat):Int),(F.at k).data⟩:RowM)]).length) c110,.map (some fb)],Ai 0 76 6 p109 (s.1++[(⟨r.dp,r.nm,r.cl,r.fd,((ix+1:Nat):Int),(F.at k).data⟩:RowM)]).length c110 ((s.1++[(⟨r.dp,r.nm,r.cl,r.fd,((ix+1:Nat):Int),(F.at k).data⟩:RowM)]).flatMap Cm),pmC iV fb (flL A s.2),Ah cf 65 [π (A.ad 0),.map (some ob)],AO F A,AP KO ob A.C (opG F A),Ch.many R]) rfl fun _ w12 h30 s14 _=>?_
   refine hK15 _ _ (s14.pk [0,3,4,5,6,7] rfl) fun hq9=>h30.sk [4,0,1,2] rfl fun h31=>?_
   refine wpAnyH_done κ ?_ _
   exact hJ19 p109 c110 _ _ (h31.subs rfl) s14 
 refine sqr fun _ hK16=>mvs 2 h5 rfl fun _ h32=>sv1 h32 rfl (v:=π (A.ad k)) (rfa h32 rfl rfl (fun w=>AJ (A.ad k) 0 w)) fun _ h33=>sw1 h33 rfl (v:=ν (BY (F.dir k))) (rld h33 rfl rfl (NdP.c0 (F:=FsM.nE F) (A:=AdM.nC A) (k:=k) (s8.get 5 rfl:NdP _ _ _) (show k<F.N.length from ω) υ3 rfl)) fun _ h34=>bv h34 (z:=.bool (!(F.dir k))) rfl (cEq _ _ _ _ (Ks _)) fun _ h35=>h35.sn [12,4,0,1,2] rfl fun h36=>hK16 _ _<|wcT h36 rfl (Bt hd)<|h36.sk [4,0,1,2] rfl fun h37=>sq fun _ hK17=>sq fun _ hK18=>wp_region_lit ?_
 refine mvs 2 h37 rfl fun _ h38=>fav h38 rfl (Fa _ _) fun _ h39=>ldv h39 s8 1 υ99 rfl rfl rfl rfl fun _ h40=>mv h40 rfl fun _ h41=>sw1 h41 rfl (v:=ν ((ix+1:Nat):Int)) (DR h41 rfl rfl rfl (Kk (s8.get 3 rfl:PMap _ _ _ _) (s8.get 5 rfl:NdP _ _ _) hMk hkl hm hix)) fun _ h42=>bv h42 rfl (cEq _ _ _ _ (decide_eq_false ω)) fun _ h43=>h43.sn [19,4,0,1,2] rfl fun h44=>hK18 _ _<|wcF h44 rfl rfl<|h44.sk [4,0,1,2] rfl fun h45=>?_
 refine wp_skip<|hK17 _ _ ?_
 have s15:=s8.drew
 refine wp_region_held_drew (S:=fun w'=>Sep w' [Ah sg 101 [.slice ra s.1.length rc,.map (some fb)],Ai 0 76 6 ra s.1.length rc (s.1.flatMap Cm),pmC iV fb (flL A s.2),Ah cf 65 [π (A.ad 0),.map (some ob)],AO F A,AP KO ob A.C (opG F A),Ch.many R]) κ (s15.pk [1,2,3,4,5,6,7] rfl) (fun hq10=>?_)
 refine tv1 hq10 h45 0 rfl rfl (v:=π sg) (fun w1 _=>(Aq h45 rfl rfl) w1) fun _ h46=>?_
 refine tv1 hq10 h46 1 rfl rfl (v:=π sg) (fun w1 _=>(CJ h46 rfl rfl) w1) fun _ h47=>?_
 refine tv1 hq10 h47 2 rfl rfl (v:=.pointer (some ⟨sg,1,none⟩)) (fun w1 _=>(rfa h47 rfl rfl (fun w=>Fa sg 0 w)) w1) fun _ h48=>?_
 refine tv1 hq10 h48 3 rfl rfl (v:=.map (some fb)) (fun w1 hSw=>(rld h48 rfl rfl (ldB υ99 rfl (hSw.get 0 rfl:Blk _ _ _ _) rfl))) fun _ h49=>?_
 refine tv1 hq10 h49 4 rfl rfl (v:=π (A.ad k)) (fun w1 _=>(Aq h49 rfl rfl) w1) fun _ h50=>?_
 refine tv1 hq10 h50 6 rfl rfl (v:=π (A.ad k)) (fun w1 _=>(Aq h50 rfl rfl) w1) fun _ h51=>?_
 refine tv1 hq10 h51 7 rfl rfl (v:=π (A.ad k)) (fun w1 _=>(CJ h51 rfl rfl) w1) fun _ h52=>?_
 refine tv1 hq10 h52 8 rfl rfl (v:=.pointer (some ⟨(A.ad k),2,none⟩)) (fun w1 _=>(rfa h52 rfl rfl (fun w=>BA (A.ad k) 0 w)) w1) fun _ h53=>?_
 refine wpAnyH_ready (rs:=[5,9]) κ (by simp) (toc rfl (wn rfl) (fun K5 hK19=>?_) (toc rfl (wn rfl) (fun K5 hK19=>?_) AllReadyH.nil))
 ·skip
  refine Cr h53 rfl rfl rfl (v:=ν ((ix+1:Nat):Int)) (w':=w7.drew) ((DR h53 rfl rfl rfl (Kk (s15.get 3 rfl:PMap _ _ _ _) (s15.get 5 rfl:NdP _ _ _) hMk hkl hm hix))) fun _ h54=>hK19 _ _ (s15.pk [1,2,3,4,5,6,7] rfl) fun hq11=>?_
  refine tv1 hq11 h54 10 rfl rfl (v:=.pointer (some ⟨g4,4,none⟩)) (fun w1 _=>(rfa h54 rfl rfl (fun w=>FE g4 0 w)) w1) fun _ h55=>?_
  refine wpAnyH_ready (rs:=[9,11]) κ (by simp) (toc rfl (wn rfl) (fun K6 hK20=>?_) (toc rfl (wn rfl) (fun K6 hK20=>?_) AllReadyH.nil))
  ·skip
   refine Cr h55 rfl rfl rfl (v:=σ ((F.at k).data)) (w':=w7.drew) ((rld h55 rfl rfl (NdP.c2 (F:=FsM.nE F) (A:=AdM.nC A) (k:=k) (s15.get 5 rfl:NdP _ _ _) (show k<F.N.length from ω) υ9 rfl))) fun _ h56=>hK20 _ _ (s15.pk [1,2,3,4,5,6,7] rfl) fun hq12=>?_
   refine to_ 11 rfl (wn rfl) κ fun _ hK21=>CV h56 rfl rfl s15 0 rfl rfl rfl [ν ((ix+1:Nat):Int)] rfl κ rfl (by show 4+1≤6;decide) (L':=[ν r.dp,.string r.nm,ν r.cl,ν r.fd,ν ((ix+1:Nat):Int),σ r.dt]) rfl (cs':=[Ah g4 76 [ν r.dp,.string r.nm,ν r.cl,ν r.fd,ν ((ix+1:Nat):Int),σ r.dt],Ah sg 101 [.slice ra s.1.length rc,.map (some fb)],Ai 0 76 6 ra s.1.length rc (s.1.flatMap Cm),pmC iV fb (flL A s.2),Ah cf 65 [π (A.ad 0),.map (some ob)],AO F A,AP KO ob A.C (opG F A),Ch.many R]) rfl fun _ w13 h57 s16 _=>?_
   refine hK21 _ _ (s16.pk [1,2,3,4,5,6,7] rfl) fun hq13=>?_
   refine tv1 hq13 h57 12 rfl rfl (v:=.pointer (some ⟨g4,5,none⟩)) (fun w1 _=>(rfa h57 rfl rfl (fun w=>Et g4 0 w)) w1) fun _ h58=>?_
   refine to_ 13 rfl (wn rfl) κ fun _ hK22=>CV h58 rfl rfl s16 0 rfl rfl rfl [σ ((F.at k).data)] rfl κ rfl (by show 5+1≤6;decide) (L':=[ν r.dp,.string r.nm,ν r.cl,ν r.fd,ν ((ix+1:Nat):Int),σ ((F.at k).data)]) rfl (cs':=[Ah g4 76 [ν r.dp,.string r.nm,ν r.cl,ν r.fd,ν ((ix+1:Nat):Int),σ ((F.at k).data)],Ah sg 101 [.slice ra s.1.length rc,.map (some fb)],Ai 0 76 6 ra s.1.length rc (s.1.flatMap Cm),pmC iV fb (flL A s.2),Ah cf 65 [π (A.ad 0),.map (some ob)],AO F A,AP KO ob A.C (opG F A),Ch.many R]) rfl fun _ w14 h59 s17 _=>?_
   refine hK22 _ _ (s17.pk [1,2,3,4,5,6,7] rfl) fun hq14=>h59.sk [4,0,1,2] rfl fun h60=>?_
   refine wpAnyH_done κ ?_ _
   exact hJ13  _ _ (h60.subs rfl) s17 
  ·skip
   refine CV h55 rfl rfl s15 0 rfl rfl rfl [ν ((ix+1:Nat):Int)] rfl κ rfl (by show 4+1≤6;decide) (L':=[ν r.dp,.string r.nm,ν r.cl,ν r.fd,ν ((ix+1:Nat):Int),σ r.dt]) rfl (cs':=[Ah g4 76 [ν r.dp,.string r.nm,ν r.cl,ν r.fd,ν ((ix+1:Nat):Int),σ r.dt],Ah sg 101 [.slice ra s.1.length rc,.map (some fb)],Ai 0 76 6 ra s.1.length rc (s.1.flatMap Cm),pmC iV fb (flL A s.2),Ah cf 65 [π (A.ad 0),.map (some ob)],AO F A,AP KO ob A.C (opG F A),Ch.many R]) rfl fun _ w15 h61 s18 _=>hK20 _ _ (s18.pk [1,2,3,4,5,6,7] rfl) fun hq15=>?_
   refine to_ 9 rfl (wn rfl) κ fun _ hK23=>Cr h61 rfl rfl rfl (v:=σ ((F.at k).data)) (w':=w15) ((rld h61 rfl rfl (NdP.c2 (F:=FsM.nE F) (A:=AdM.nC A) (k:=k) (s18.get 5 rfl:NdP _ _ _) (show k<F.N.length from ω) υ9 rfl))) fun _ h62=>hK23 _ _ (s18.pk [1,2,3,4,5,6,7] rfl) fun hq16=>?_
   refine tv1 hq16 h62 12 rfl rfl (v:=.pointer (some ⟨g4,5,none⟩)) (fun w1 _=>(rfa h62 rfl rfl (fun w=>Et g4 0 w)) w1) fun _ h63=>?_
   refine to_ 13 rfl (wn rfl) κ fun _ hK24=>CV h63 rfl rfl s18 0 rfl rfl rfl [σ ((F.at k).data)] rfl κ rfl (by show 5+1≤6;decide) (L':=[ν r.dp,.string r.nm,ν r.cl,ν r.fd,ν ((ix+1:Nat):Int),σ ((F.at k).data)]) rfl (cs':=[Ah g4 76 [ν r.dp,.string r.nm,ν r.cl,ν r.fd,ν ((ix+1:Nat):Int),σ ((F.at k).data)],Ah sg 101 [.slice ra s.1.length rc,.map (some fb)],Ai 0 76 6 ra s.1.length rc (s.1.flatMap Cm),pmC iV fb (flL A s.2),Ah cf 65 [π (A.ad 0),.map (some ob)],AO F A,AP KO ob A.C (opG F A),Ch.many R]) rfl fun _ w16 h64 s19 _=>?_
   refine hK24 _ _ (s19.pk [1,2,3,4,5,6,7] rfl) fun hq17=>h64.sk [4,0,1,2] rfl fun h65=>?_
   refine wpAnyH_done κ ?_ _
   exact hJ13  _ _ (h65.subs rfl) s19 
 ·skip
  refine Cr h53 rfl rfl rfl (v:=σ ((F.at k).data)) (w':=w7.drew) ((rld h53 rfl rfl (NdP.c2 (F:=FsM.nE F) (A:=AdM.nC A) (k:=k) (s15.get 5 rfl:NdP _ _ _) (show k<F.N.length from ω) υ9 rfl))) fun _ h66=>hK19 _ _ (s15.pk [1,2,3,4,5,6,7] rfl) fun hq18=>?_
  refine to_ 5 rfl (wn rfl) κ fun _ hK25=>Cr h66 rfl rfl rfl (v:=ν ((ix+1:Nat):Int)) (w':=w7.drew) ((DR h66 rfl rfl rfl (Kk (s15.get 3 rfl:PMap _ _ _ _) (s15.get 5 rfl:NdP _ _ _) hMk hkl hm hix))) fun _ h67=>hK25 _ _ (s15.pk [1,2,3,4,5,6,7] rfl) fun hq19=>?_
  refine tv1 hq19 h67 10 rfl rfl (v:=.pointer (some ⟨g4,4,none⟩)) (fun w1 _=>(rfa h67 rfl rfl (fun w=>FE g4 0 w)) w1) fun _ h68=>?_
  refine to_ 11 rfl (wn rfl) κ fun _ hK26=>CV h68 rfl rfl s15 0 rfl rfl rfl [ν ((ix+1:Nat):Int)] rfl κ rfl (by show 4+1≤6;decide) (L':=[ν r.dp,.string r.nm,ν r.cl,ν r.fd,ν ((ix+1:Nat):Int),σ r.dt]) rfl (cs':=[Ah g4 76 [ν r.dp,.string r.nm,ν r.cl,ν r.fd,ν ((ix+1:Nat):Int),σ r.dt],Ah sg 101 [.slice ra s.1.length rc,.map (some fb)],Ai 0 76 6 ra s.1.length rc (s.1.flatMap Cm),pmC iV fb (flL A s.2),Ah cf 65 [π (A.ad 0),.map (some ob)],AO F A,AP KO ob A.C (opG F A),Ch.many R]) rfl fun _ w17 h69 s20 _=>?_
  refine hK26 _ _ (s20.pk [1,2,3,4,5,6,7] rfl) fun hq20=>?_
  refine tv1 hq20 h69 12 rfl rfl (v:=.pointer (some ⟨g4,5,none⟩)) (fun w1 _=>(rfa h69 rfl rfl (fun w=>Et g4 0 w)) w1) fun _ h70=>?_
  refine to_ 13 rfl (wn rfl) κ fun _ hK27=>CV h70 rfl rfl s20 0 rfl rfl rfl [σ ((F.at k).data)] rfl κ rfl (by show 5+1≤6;decide) (L':=[ν r.dp,.string r.nm,ν r.cl,ν r.fd,ν ((ix+1:Nat):Int),σ ((F.at k).data)]) rfl (cs':=[Ah g4 76 [ν r.dp,.string r.nm,ν r.cl,ν r.fd,ν ((ix+1:Nat):Int),σ ((F.at k).data)],Ah sg 101 [.slice ra s.1.length rc,.map (some fb)],Ai 0 76 6 ra s.1.length rc (s.1.flatMap Cm),pmC iV fb (flL A s.2),Ah cf 65 [π (A.ad 0),.map (some ob)],AO F A,AP KO ob A.C (opG F A),Ch.many R]) rfl fun _ w18 h71 s21 _=>?_
  refine hK27 _ _ (s21.pk [1,2,3,4,5,6,7] rfl) fun hq21=>h71.sk [4,0,1,2] rfl fun h72=>?_
  refine wpAnyH_done κ ?_ _
  exact hJ13  _ _ (h72.subs rfl) s21 
theorem Qk {w:World} {cf ob:Nat} {F:FsM} {A:AdM} {R:List Ch} {δ:Nat→Int} {sg fb:Nat} {ra:Option Addr} {rc:Nat} {s:Rows} {r:RowM} {k:Nat} (hS0:Sep w ([Ah sg 101 [.slice ra s.1.length rc,.map (some fb)],Ai 0 76 6 ra s.1.length rc (s.1.flatMap Cm),pmC iV fb (flL A s.2),Ah cf 65 [π (A.ad 0),.map (some ob)],AO F A,AP KO ob A.C (opG F A)]++R)) (hok:FsC F δ) (hz:SmF F) (hkl:k<F.N.length) (hMk:MkOk F s.2) (hd:F.dir k=false) (hm:¬ k∈s.2) (hr:s.1.length≤4000) :
  CallsR Tryz.prog 60 #[π sg,.agg #[ν r.dp,.string r.nm,ν r.cl,ν r.fd,ν r.fl,σ r.dt],π (A.ad k)] w (fun v w'=>∃ ra' rc',v=.tuple #[]∧Sep w' ([Ah sg 101 [.slice ra' ((Cu F r k s).1.length) rc',.map (some fb)],Ai 0 76 6 ra' ((Cu F r k s).1).length rc' (((Cu F r k s).1).flatMap Cm),pmC iV fb (flL A (Cu F r k s).2),Ah cf 65 [π (A.ad 0),.map (some ob)],AO F A,AP KO ob A.C (opG F A)]++R)):=by
 have hS:Sep w [Ah sg 101 [.slice ra s.1.length rc,.map (some fb)],Ai 0 76 6 ra s.1.length rc (s.1.flatMap Cm),pmC iV fb (flL A s.2),Ah cf 65 [π (A.ad 0),.map (some ob)],AO F A,AP KO ob A.C (opG F A),Ch.many R]:=Sep.tail_many (xs:=[_,_,_,_,_,_]) hS0;clear hS0
 have hz0:=hz;obtain ⟨hz1,hz2,hz3⟩:F.N.length≤1000∧F.E.length≤1000∧F.O.length≤1000:=hz
 have hMl:=hMk.len
 have hMk2:MkOk F (s.2++[k]):=by have z:=hMk.mark hkl;unfold Ck at z;rw [hd,if_neg (by decide),if_neg hm] at z;exact z
 have hm2:k∈s.2++[k]:=List.mem_append_right _ (List.mem_singleton.2 rfl)
 refine AE Tryz.func60 rfl (N:=74) Tryz.ntmps60 (by show 3≤74;decide) [(0,π sg),(1,.agg #[ν r.dp,.string r.nm,ν r.cl,ν r.fd,ν r.fl,σ r.dt]),(2,π (A.ad k))] rfl fun _ h1=>sqr fun _ hK3=>so (wn rfl) fun _ hK1=>Dc h1 rfl rfl rfl rfl rfl (z:=[ν r.dp,.string r.nm,ν r.cl,ν r.fd,ν r.fl,σ r.dt]) rfl hS fun _ g4 w7 h5 s8 _ _=>hK1 _ _ ?_
 refine wpList_nil<|hK3 _ _<|sq fun K1 hK2=>?_
 have hJ13:∀  a' w',Kn 74 [(4,π g4),(0,π sg),(1,.agg #[ν r.dp,.string r.nm,ν r.cl,ν r.fd,ν r.fl,σ r.dt]),(2,π (A.ad k))] a'→Sep w' [Ah g4 76 [ν r.dp,.string r.nm,ν r.cl,ν r.fd,ν ((s.2.length+1:Nat):Int),σ ((F.at k).data)],Ah sg 101 [.slice ra s.1.length rc,.map (some fb)],Ai 0 76 6 ra s.1.length rc (s.1.flatMap Cm),pmC iV fb (flL A (s.2++[k])),Ah cf 65 [π (A.ad 0),.map (some ob)],AO F A,AP KO ob A.C (opG F A),Ch.many R]→K1 a' w':=by
  intro a1 w2 h2 s1
  refine hK2 _ _ ?_
  refine sq fun K2 hK4=>?_
  have hJ19:∀ (p5:Option Addr) (c5:Nat) a' w',Kn 74 [(4,π g4),(0,π sg),(1,.agg #[ν r.dp,.string r.nm,ν r.cl,ν r.fd,ν r.fl,σ r.dt]),(2,π (A.ad k))] a'→Sep w' [Ah g4 76 [ν r.dp,.string r.nm,ν r.cl,ν r.fd,ν ((s.2.length+1:Nat):Int),σ ((F.at k).data)],Ah sg 101 [.slice p5 ((s.1++[(⟨r.dp,r.nm,r.cl,r.fd,((s.2.length+1:Nat):Int),(F.at k).data⟩:RowM)]).length) c5,.map (some fb)],Ai 0 76 6 p5 (s.1++[(⟨r.dp,r.nm,r.cl,r.fd,((s.2.length+1:Nat):Int),(F.at k).data⟩:RowM)]).length c5 ((s.1++[(⟨r.dp,r.nm,r.cl,r.fd,((s.2.length+1:Nat):Int),(F.at k).data⟩:RowM)]).flatMap Cm),pmC iV fb (flL A (s.2++[k])),Ah cf 65 [π (A.ad 0),.map (some ob)],AO F A,AP KO ob A.C (opG F A),Ch.many R]→K2 a' w':=by
   intro p5 c5 a2 w3 h3 s2
   refine hK4 _ _ ?_
   refine sqr fun _ hK5=>mv h3 rfl fun _ h4=>cl h4 rfl Dm (LS (cf:=cf) (A:=A) (F:=F) (s2.pk [4,5,6,0,1,2,3,7] rfl) hok hz0 hkl hd) fun _ v1 w4 r1 h6=>?_
   obtain ⟨rfl,s3⟩:=r1
   refine sv1 h6 rfl (v:=ν 0) (CR h6 rfl rfl υ33) fun _ h7=>mv h7 rfl fun _ h8=>h8.sn [56,55,54,4,0,1,2] rfl fun h9=>hK5 _ _<|wp_block ?_
   refine DK (fun (z:Nat) a' w'=>Kn 74 [(56,ν 0),(55,ν 0),(54,.slice none 0 0),(4,π g4),(0,π sg),(1,.agg #[ν r.dp,.string r.nm,ν r.cl,ν r.fd,ν r.fl,σ r.dt]),(2,π (A.ad k))] a'∧Sep w' [Ah cf 65 [π (A.ad 0),.map (some ob)],AO F A,AP KO ob A.C (opG F A),Ah g4 76 [ν r.dp,.string r.nm,ν r.cl,ν r.fd,ν ((s.2.length+1:Nat):Int),σ ((F.at k).data)],Ah sg 101 [.slice p5 ((s.1++[(⟨r.dp,r.nm,r.cl,r.fd,((s.2.length+1:Nat):Int),(F.at k).data⟩:RowM)]).length) c5,.map (some fb)],Ai 0 76 6 p5 (s.1++[(⟨r.dp,r.nm,r.cl,r.fd,((s.2.length+1:Nat):Int),(F.at k).data⟩:RowM)]).length c5 ((s.1++[(⟨r.dp,r.nm,r.cl,r.fd,((s.2.length+1:Nat):Int),(F.at k).data⟩:RowM)]).flatMap Cm),pmC iV fb (flL A (s.2++[k])),Ch.many R]) (fun (z:Nat)=>0) 0 ⟨h9.subs rfl,s3⟩ ?_
   rintro z44 a3 w5 ⟨h10,s4⟩ K3 hK6
   refine sqr fun _ hK7=>bv h10 rfl (cLt _ _ _ _ rfl) fun _ h11=>wpList_nil<|hK7 _ _<|sq fun _ hK8=>wcF h11 rfl rfl<|h11.sk [56,55,54,4,0,1,2] rfl fun h12=>wp_exit ?_
   simp only [Exit.then,Exit.inBlock,↓reduceIte,Nat.reduceEqDiff]
   refine Nz (v:=.tuple #[]) (fun _=>NX rfl _) h12.defs ?_
   rw [Pv hd r s hm]
   exact ⟨_,_,rfl,Sep.tail_un (xs:=[_,_,_,_,_,_]) (s4.pk [4,5,6,0,1,2,7] rfl)⟩
  have s5:=s1.drew
  refine wp_region_held_drew (S:=fun w'=>Sep w' [Ah g4 76 [ν r.dp,.string r.nm,ν r.cl,ν r.fd,ν ((s.2.length+1:Nat):Int),σ ((F.at k).data)],pmC iV fb (flL A (s.2++[k])),Ah cf 65 [π (A.ad 0),.map (some ob)],AO F A,AP KO ob A.C (opG F A),Ch.many R]) κ (s5.pk [0,3,4,5,6,7] rfl) (fun hq1=>?_)
  refine tv1 hq1 h2 0 rfl rfl (v:=π sg) (fun w1 _=>(Aq h2 rfl rfl) w1) fun _ h13=>?_
  refine tv1 hq1 h13 1 rfl rfl (v:=π sg) (fun w1 _=>(Aq h13 rfl rfl) w1) fun _ h14=>?_
  refine tv1 hq1 h14 2 rfl rfl (v:=π sg) (fun w1 _=>(CJ h14 rfl rfl) w1) fun _ h15=>?_
  refine tv1 hq1 h15 3 rfl rfl (v:=π sg) (fun w1 _=>(rfa h15 rfl rfl (fun w=>DW sg 0 w)) w1) fun _ h16=>?_
  refine tv1 hq1 h16 5 rfl rfl (v:=.agg #[ν r.dp,.string r.nm,ν r.cl,ν r.fd,ν ((s.2.length+1:Nat):Int),σ ((F.at k).data)]) (fun w1 hSw=>(rld h16 rfl rfl (ldA υ76 rfl (n:=6) κ (hSw.get 0 rfl:Blk _ _ _ _) rfl rfl))) fun _ h17=>?_
  refine wpAnyH_ready (rs:=[4,6]) κ (by simp) (toc rfl (wn rfl) (fun K4 hK9=>?_) (toc rfl (wn rfl) (fun K4 hK9=>?_) AllReadyH.nil))
  ·skip
   refine Cr h17 rfl rfl rfl (v:=.slice ra s.1.length rc) (w':=w2.drew) ((rld h17 rfl rfl (ldB υ74 rfl (s5.get 1 rfl:Blk _ _ _ _) rfl))) fun _ h18=>hK9 _ _ (s5.pk [0,3,4,5,6,7] rfl) fun hq2=>?_
   refine to_ 6 rfl (wn rfl) κ fun _ hK10=>Dd h18 rfl rfl rfl (E:=76) (xs:=[(0,.tmp 48)]) rfl (vs:=[(0,.agg #[ν r.dp,.string r.nm,ν r.cl,ν r.fd,ν ((s.2.length+1:Nat):Int),σ ((F.at k).data)])]) rfl (z:=[ν r.dp,.string r.nm,ν r.cl,ν r.fd,ν ((s.2.length+1:Nat):Int),σ ((F.at k).data)]) (fun _=>κ) s5 fun _ g1 w6 h19 s6 _ _=>?_
   refine hK10 _ _ (s6.pk [1,4,5,6,7,8] rfl) fun hq3=>?_
   refine to_ 7 rfl (wn rfl) κ fun _ hK11=>EQ Fh h19 rfl rfl rfl rfl ERw s6 3 rfl rfl 0 (y:=(⟨r.dp,r.nm,r.cl,r.fd,((s.2.length+1:Nat):Int),(F.at k).data⟩:RowM)) rfl rfl rfl (by decide) ω (L':=s.1++[(⟨r.dp,r.nm,r.cl,r.fd,((s.2.length+1:Nat):Int),(F.at k).data⟩:RowM)]) rfl fun _ p76 c77 w8 h20 s7=>?_
   have s9:=s7.pk [1,2,3,4,5,6,7,8] rfl;clear s7
   refine hK11 _ _ (s9.pk [0,3,4,5,6,7] rfl) fun hq4=>?_
   refine tv1 hq4 h20 8 rfl rfl (v:=π sg) (fun w1 _=>(CJ h20 rfl rfl) w1) fun _ h21=>?_
   refine tv1 hq4 h21 9 rfl rfl (v:=π sg) (fun w1 _=>(rfa h21 rfl rfl (fun w=>DW sg 0 w)) w1) fun _ h22=>?_
   refine to_ 10 rfl (wn rfl) κ fun _ hK12=>CV h22 rfl rfl s9 1 rfl rfl rfl [.slice p76 ((s.1++[(⟨r.dp,r.nm,r.cl,r.fd,((s.2.length+1:Nat):Int),(F.at k).data⟩:RowM)]).length) c77] rfl κ rfl (by show 0+1≤2;decide) (L':=[.slice p76 ((s.1++[(⟨r.dp,r.nm,r.cl,r.fd,((s.2.length+1:Nat):Int),(F.at k).data⟩:RowM)]).length) c77,.map (some fb)]) rfl (cs':=[Ah g4 76 [ν r.dp,.string r.nm,ν r.cl,ν r.fd,ν ((s.2.length+1:Nat):Int),σ ((F.at k).data)],Ah sg 101 [.slice p76 ((s.1++[(⟨r.dp,r.nm,r.cl,r.fd,((s.2.length+1:Nat):Int),(F.at k).data⟩:RowM)]).length) c77,.map (some fb)],Ai 0 76 6 p76 (s.1++[(⟨r.dp,r.nm,r.cl,r.fd,((s.2.length+1:Nat):Int),(F.at k).data⟩:RowM)]).length c77 ((s.1++[(⟨r.dp,r.nm,r.cl,r.fd,((s.2.length+1:Nat):Int),(F.at k).data⟩:RowM)]).flatMap Cm),pmC iV fb (flL A (s.2++[k])),Ah cf 65 [π (A.ad 0),.map (some ob)],AO F A,AP KO ob A.C (opG F A),Ch.many R]) rfl fun _ w9 h23 s10 _=>?_
   refine hK12 _ _ (s10.pk [0,3,4,5,6,7] rfl) fun hq5=>h23.sk [4,0,1,2] rfl fun h24=>?_
   refine wpAnyH_done κ ?_ _
   exact hJ19 p76 c77 _ _ (h24.subs rfl) s10 
  ·skip
   refine Dd h17 rfl rfl rfl (E:=76) (xs:=[(0,.tmp 48)]) rfl (vs:=[(0,.agg #[ν r.dp,.string r.nm,ν r.cl,ν r.fd,ν ((s.2.length+1:Nat):Int),σ ((F.at k).data)])]) rfl (z:=[ν r.dp,.string r.nm,ν r.cl,ν r.fd,ν ((s.2.length+1:Nat):Int),σ ((F.at k).data)]) (fun _=>κ) s5 fun _ g2 w10 h25 s11 _ _=>hK9 _ _ (s11.pk [1,4,5,6,7,8] rfl) fun hq6=>?_
   refine to_ 4 rfl (wn rfl) κ fun _ hK13=>Cr h25 rfl rfl rfl (v:=.slice ra s.1.length rc) (w':=w10) ((rld h25 rfl rfl (ldB υ74 rfl (s11.get 2 rfl:Blk _ _ _ _) rfl))) fun _ h26=>hK13 _ _ (s11.pk [1,4,5,6,7,8] rfl) fun hq7=>?_
   refine to_ 7 rfl (wn rfl) κ fun _ hK14=>EQ Fh h26 rfl rfl rfl rfl ERw s11 3 rfl rfl 0 (y:=(⟨r.dp,r.nm,r.cl,r.fd,((s.2.length+1:Nat):Int),(F.at k).data⟩:RowM)) rfl rfl rfl (by decide) ω (L':=s.1++[(⟨r.dp,r.nm,r.cl,r.fd,((s.2.length+1:Nat):Int),(F.at k).data⟩:RowM)]) rfl fun _ p109 c110 w11 h27 s12=>?_
   have s13:=s12.pk [1,2,3,4,5,6,7,8] rfl;clear s12
   refine hK14 _ _ (s13.pk [0,3,4,5,6,7] rfl) fun hq8=>?_
   refine tv1 hq8 h27 8 rfl rfl (v:=π sg) (fun w1 _=>(CJ h27 rfl rfl) w1) fun _ h28=>?_
   refine tv1 hq8 h28 9 rfl rfl (v:=π sg) (fun w1 _=>(rfa h28 rfl rfl (fun w=>DW sg 0 w)) w1) fun _ h29=>?_
   refine to_ 10 rfl (wn rfl) κ fun _ hK15=>CV h29 rfl rfl s13 1 rfl rfl rfl [.slice p109 ((s.1++[(⟨r.dp,r.nm,r.cl,r.fd,((s.2.length+1:Nat):Int),(F.at k).data⟩:RowM)]).length) c110] rfl κ rfl (by show 0+1≤2;decide) (L':=[.slice p109 ((s.1++[(⟨r.dp,r.nm,r.cl,r.fd,((s.2.length+1:Nat):Int),(F.at k).data⟩:RowM)]).length) c110,.map (some fb)]) rfl (cs':=[Ah g4 76 [ν r.dp,.string r.nm,ν r.cl,ν r.fd,ν ((s.2.length+1:Nat):Int),σ ((F.at k).data)],Ah sg 101 [.slice p109 ((s.1++[(⟨r.dp,r.nm,r.cl,r.fd,((s.2.length+1:Nat):Int),(F.at k).data⟩:RowM)]).length) c110,.map (some fb)],Ai 0 76 6 p109 (s.1++[(⟨r.dp,r.nm,r.cl,r.fd,((s.2.length+1:Nat):Int),(F.at k).data⟩:RowM)]).length c110 ((s.1++[(⟨r.dp,r.nm,r.cl,r.fd,((s.2.length+1:Nat):Int),(F.at k).data⟩:RowM)]).flatMap Cm),pmC iV fb (flL A (s.2++[k])),Ah cf 65 [π (A.ad 0),.map (some ob)],AO F A,AP KO ob A.C (opG F A),Ch.many R]) rfl fun _ w12 h30 s14 _=>?_
   refine hK15 _ _ (s14.pk [0,3,4,5,6,7] rfl) fun hq9=>h30.sk [4,0,1,2] rfl fun h31=>?_
   refine wpAnyH_done κ ?_ _
   exact hJ19 p109 c110 _ _ (h31.subs rfl) s14 
 refine sqr fun _ hK16=>mvs 2 h5 rfl fun _ h32=>sv1 h32 rfl (v:=π (A.ad k)) (rfa h32 rfl rfl (fun w=>AJ (A.ad k) 0 w)) fun _ h33=>sw1 h33 rfl (v:=ν (BY (F.dir k))) (rld h33 rfl rfl (NdP.c0 (F:=FsM.nE F) (A:=AdM.nC A) (k:=k) (s8.get 5 rfl:NdP _ _ _) (show k<F.N.length from ω) υ3 rfl)) fun _ h34=>bv h34 (z:=.bool (!(F.dir k))) rfl (cEq _ _ _ _ (Ks _)) fun _ h35=>h35.sn [12,4,0,1,2] rfl fun h36=>hK16 _ _<|wcT h36 rfl (Bt hd)<|h36.sk [4,0,1,2] rfl fun h37=>sq fun _ hK17=>sq fun _ hK18=>wp_region_lit ?_
 refine mvs 2 h37 rfl fun _ h38=>fav h38 rfl (Dn _ _) fun _ h39=>ldv h39 s8 1 υ99 rfl rfl rfl rfl fun _ h40=>mv h40 rfl fun _ h41=>sw1 h41 rfl (v:=ν 0) (DR h41 rfl rfl rfl (To (s8.get 3 rfl:PMap _ _ _ _) (s8.get 5 rfl:NdP _ _ _) hMk hkl hm)) fun _ h42=>bv h42 rfl (cEq _ _ _ _ rfl) fun _ h43=>h43.sn [19,4,0,1,2] rfl fun h44=>hK18 _ _<|wcT h44 rfl rfl<|h44.sk [4,0,1,2] rfl fun h45=>?_
 have s15:=s8.drew
 refine wp_region_held_drew (S:=fun w'=>Sep w' [Ah g4 76 [ν r.dp,.string r.nm,ν r.cl,ν r.fd,ν r.fl,σ r.dt],Ah sg 101 [.slice ra s.1.length rc,.map (some fb)],Ai 0 76 6 ra s.1.length rc (s.1.flatMap Cm),Ah cf 65 [π (A.ad 0),.map (some ob)],AO F A,AP KO ob A.C (opG F A),Ch.many R]) κ (s15.pk [0,1,2,4,5,6,7] rfl) (fun hq10=>?_)
 refine tv1 hq10 h45 0 rfl rfl (v:=π sg) (fun w1 _=>(Aq h45 rfl rfl) w1) fun _ h46=>?_
 refine tv1 hq10 h46 1 rfl rfl (v:=π sg) (fun w1 _=>(CJ h46 rfl rfl) w1) fun _ h47=>?_
 refine tv1 hq10 h47 2 rfl rfl (v:=.pointer (some ⟨sg,1,none⟩)) (fun w1 _=>(rfa h47 rfl rfl (fun w=>Dn sg 0 w)) w1) fun _ h48=>?_
 refine tv1 hq10 h48 3 rfl rfl (v:=.map (some fb)) (fun w1 hSw=>(rld h48 rfl rfl (ldB υ99 rfl (hSw.get 1 rfl:Blk _ _ _ _) rfl))) fun _ h49=>?_
 refine tv1 hq10 h49 4 rfl rfl (v:=π (A.ad k)) (fun w1 _=>(Aq h49 rfl rfl) w1) fun _ h50=>?_
 refine tv1 hq10 h50 5 rfl rfl (v:=π sg) (fun w1 _=>(Aq h50 rfl rfl) w1) fun _ h51=>?_
 refine tv1 hq10 h51 6 rfl rfl (v:=π sg) (fun w1 _=>(CJ h51 rfl rfl) w1) fun _ h52=>?_
 refine tv1 hq10 h52 7 rfl rfl (v:=.pointer (some ⟨sg,1,none⟩)) (fun w1 _=>(rfa h52 rfl rfl (fun w=>Dn sg 0 w)) w1) fun _ h53=>?_
 refine tv1 hq10 h53 8 rfl rfl (v:=.map (some fb)) (fun w1 hSw=>(rld h53 rfl rfl (ldB υ99 rfl (hSw.get 1 rfl:Blk _ _ _ _) rfl))) fun _ h54=>?_
 refine to_ 9 rfl (wn rfl) κ fun _ hK19=>Cr h54 rfl rfl rfl (v:=ν (s.2.length:Int)) (w':=w7.drew) ((TB h54 rfl rfl (s15.get 3 rfl:PMap _ _ _ _) υ99 (by unfold flL;rw [List.length_map,List.length_range]))) fun _ h55=>hK19 _ _ (s15.pk [0,1,2,4,5,6,7] rfl) fun hq11=>?_
 refine tv1 hq11 h55 10 rfl rfl (v:=ν ((s.2.length+1:Nat):Int)) (fun w1 _=>(BF h55 rfl rfl rfl (DG _ _ _ ω ω ω)) w1) fun _ h56=>?_
 refine to_ 11 rfl (wn rfl) κ fun _ hK20=>TH (av:=iV) (b:=fb) (g:=A.ad k) (u:=((s.2.length+1:Nat):Int)) h56 rfl rfl s15 3 rfl rfl rfl rfl υ99 υ62 (NdP.tellsV (s15.get 5 rfl:NdP _ _ _) hMk hkl) (OC (s15.get 5 rfl:NdP _ _ _) hMk hkl hm) (cs':=[Ah g4 76 [ν r.dp,.string r.nm,ν r.cl,ν r.fd,ν r.fl,σ r.dt],Ah sg 101 [.slice ra s.1.length rc,.map (some fb)],Ai 0 76 6 ra s.1.length rc (s.1.flatMap Cm),pmC iV fb (flL A (s.2++[k])),Ah cf 65 [π (A.ad 0),.map (some ob)],AO F A,AP KO ob A.C (opG F A),Ch.many R]) (by rw [← RS];rfl) fun _ w13 h57 s16=>?_
 refine hK20 _ _ (s16.pk [0,1,2,4,5,6,7] rfl) fun hq12=>h57.sk [4,0,1,2] rfl fun h58=>?_
 refine wpAnyH_done κ ?_ _
 refine hK17 _ _ ?_
 have s17:=s16.drew
 refine wp_region_held_drew (S:=fun w'=>Sep w' [Ah sg 101 [.slice ra s.1.length rc,.map (some fb)],Ai 0 76 6 ra s.1.length rc (s.1.flatMap Cm),pmC iV fb (flL A (s.2++[k])),Ah cf 65 [π (A.ad 0),.map (some ob)],AO F A,AP KO ob A.C (opG F A),Ch.many R]) κ (s17.pk [1,2,3,4,5,6,7] rfl) (fun hq13=>?_)
 refine tv1 hq13 h58 0 rfl rfl (v:=π sg) (fun w1 _=>(Aq h58 rfl rfl) w1) fun _ h59=>?_
 refine tv1 hq13 h59 1 rfl rfl (v:=π sg) (fun w1 _=>(CJ h59 rfl rfl) w1) fun _ h60=>?_
 refine tv1 hq13 h60 2 rfl rfl (v:=.pointer (some ⟨sg,1,none⟩)) (fun w1 _=>(rfa h60 rfl rfl (fun w=>Dn sg 0 w)) w1) fun _ h61=>?_
 refine tv1 hq13 h61 3 rfl rfl (v:=.map (some fb)) (fun w1 hSw=>(rld h61 rfl rfl (ldB υ99 rfl (hSw.get 0 rfl:Blk _ _ _ _) rfl))) fun _ h62=>?_
 refine tv1 hq13 h62 4 rfl rfl (v:=π (A.ad k)) (fun w1 _=>(Aq h62 rfl rfl) w1) fun _ h63=>?_
 refine tv1 hq13 h63 6 rfl rfl (v:=π (A.ad k)) (fun w1 _=>(Aq h63 rfl rfl) w1) fun _ h64=>?_
 refine tv1 hq13 h64 7 rfl rfl (v:=π (A.ad k)) (fun w1 _=>(CJ h64 rfl rfl) w1) fun _ h65=>?_
 refine tv1 hq13 h65 8 rfl rfl (v:=.pointer (some ⟨(A.ad k),2,none⟩)) (fun w1 _=>(rfa h65 rfl rfl (fun w=>BA (A.ad k) 0 w)) w1) fun _ h66=>?_
 refine wpAnyH_ready (rs:=[5,9]) κ (by simp) (toc rfl (wn rfl) (fun K5 hK21=>?_) (toc rfl (wn rfl) (fun K5 hK21=>?_) AllReadyH.nil))
 ·skip
  refine Cr h66 rfl rfl rfl (v:=ν ((s.2.length+1:Nat):Int)) (w':=w13.drew) ((DR h66 rfl rfl rfl (Kk (s17.get 3 rfl:PMap _ _ _ _) (s17.get 5 rfl:NdP _ _ _) hMk2 hkl hm2 (Kq hm)))) fun _ h67=>hK21 _ _ (s17.pk [1,2,3,4,5,6,7] rfl) fun hq14=>?_
  refine tv1 hq14 h67 10 rfl rfl (v:=.pointer (some ⟨g4,4,none⟩)) (fun w1 _=>(rfa h67 rfl rfl (fun w=>FF g4 0 w)) w1) fun _ h68=>?_
  refine wpAnyH_ready (rs:=[9,11]) κ (by simp) (toc rfl (wn rfl) (fun K6 hK22=>?_) (toc rfl (wn rfl) (fun K6 hK22=>?_) AllReadyH.nil))
  ·skip
   refine Cr h68 rfl rfl rfl (v:=σ ((F.at k).data)) (w':=w13.drew) ((rld h68 rfl rfl (NdP.c2 (F:=FsM.nE F) (A:=AdM.nC A) (k:=k) (s17.get 5 rfl:NdP _ _ _) (show k<F.N.length from ω) υ9 rfl))) fun _ h69=>hK22 _ _ (s17.pk [1,2,3,4,5,6,7] rfl) fun hq15=>?_
   refine to_ 11 rfl (wn rfl) κ fun _ hK23=>CV h69 rfl rfl s17 0 rfl rfl rfl [ν ((s.2.length+1:Nat):Int)] rfl κ rfl (by show 4+1≤6;decide) (L':=[ν r.dp,.string r.nm,ν r.cl,ν r.fd,ν ((s.2.length+1:Nat):Int),σ r.dt]) rfl (cs':=[Ah g4 76 [ν r.dp,.string r.nm,ν r.cl,ν r.fd,ν ((s.2.length+1:Nat):Int),σ r.dt],Ah sg 101 [.slice ra s.1.length rc,.map (some fb)],Ai 0 76 6 ra s.1.length rc (s.1.flatMap Cm),pmC iV fb (flL A (s.2++[k])),Ah cf 65 [π (A.ad 0),.map (some ob)],AO F A,AP KO ob A.C (opG F A),Ch.many R]) rfl fun _ w14 h70 s18 _=>?_
   refine hK23 _ _ (s18.pk [1,2,3,4,5,6,7] rfl) fun hq16=>?_
   refine tv1 hq16 h70 12 rfl rfl (v:=.pointer (some ⟨g4,5,none⟩)) (fun w1 _=>(rfa h70 rfl rfl (fun w=>Eu g4 0 w)) w1) fun _ h71=>?_
   refine to_ 13 rfl (wn rfl) κ fun _ hK24=>CV h71 rfl rfl s18 0 rfl rfl rfl [σ ((F.at k).data)] rfl κ rfl (by show 5+1≤6;decide) (L':=[ν r.dp,.string r.nm,ν r.cl,ν r.fd,ν ((s.2.length+1:Nat):Int),σ ((F.at k).data)]) rfl (cs':=[Ah g4 76 [ν r.dp,.string r.nm,ν r.cl,ν r.fd,ν ((s.2.length+1:Nat):Int),σ ((F.at k).data)],Ah sg 101 [.slice ra s.1.length rc,.map (some fb)],Ai 0 76 6 ra s.1.length rc (s.1.flatMap Cm),pmC iV fb (flL A (s.2++[k])),Ah cf 65 [π (A.ad 0),.map (some ob)],AO F A,AP KO ob A.C (opG F A),Ch.many R]) rfl fun _ w15 h72 s19 _=>?_
   refine hK24 _ _ (s19.pk [1,2,3,4,5,6,7] rfl) fun hq17=>h72.sk [4,0,1,2] rfl fun h73=>?_
   refine wpAnyH_done κ ?_ _
   exact hJ13  _ _ (h73.subs rfl) s19 
  ·skip
   refine CV h68 rfl rfl s17 0 rfl rfl rfl [ν ((s.2.length+1:Nat):Int)] rfl κ rfl (by show 4+1≤6;decide) (L':=[ν r.dp,.string r.nm,ν r.cl,ν r.fd,ν ((s.2.length+1:Nat):Int),σ r.dt]) rfl (cs':=[Ah g4 76 [ν r.dp,.string r.nm,ν r.cl,ν r.fd,ν ((s.2.length+1:Nat):Int),σ r.dt],Ah sg 101 [.slice ra s.1.length rc,.map (some fb)],Ai 0 76 6 ra s.1.length rc (s.1.flatMap Cm),pmC iV fb (flL A (s.2++[k])),Ah cf 65 [π (A.ad 0),.map (some ob)],AO F A,AP KO ob A.C (opG F A),Ch.many R]) rfl fun _ w16 h74 s20 _=>hK22 _ _ (s20.pk [1,2,3,4,5,6,7] rfl) fun hq18=>?_
   refine to_ 9 rfl (wn rfl) κ fun _ hK25=>Cr h74 rfl rfl rfl (v:=σ ((F.at k).data)) (w':=w16) ((rld h74 rfl rfl (NdP.c2 (F:=FsM.nE F) (A:=AdM.nC A) (k:=k) (s20.get 5 rfl:NdP _ _ _) (show k<F.N.length from ω) υ9 rfl))) fun _ h75=>hK25 _ _ (s20.pk [1,2,3,4,5,6,7] rfl) fun hq19=>?_
   refine tv1 hq19 h75 12 rfl rfl (v:=.pointer (some ⟨g4,5,none⟩)) (fun w1 _=>(rfa h75 rfl rfl (fun w=>Eu g4 0 w)) w1) fun _ h76=>?_
   refine to_ 13 rfl (wn rfl) κ fun _ hK26=>CV h76 rfl rfl s20 0 rfl rfl rfl [σ ((F.at k).data)] rfl κ rfl (by show 5+1≤6;decide) (L':=[ν r.dp,.string r.nm,ν r.cl,ν r.fd,ν ((s.2.length+1:Nat):Int),σ ((F.at k).data)]) rfl (cs':=[Ah g4 76 [ν r.dp,.string r.nm,ν r.cl,ν r.fd,ν ((s.2.length+1:Nat):Int),σ ((F.at k).data)],Ah sg 101 [.slice ra s.1.length rc,.map (some fb)],Ai 0 76 6 ra s.1.length rc (s.1.flatMap Cm),pmC iV fb (flL A (s.2++[k])),Ah cf 65 [π (A.ad 0),.map (some ob)],AO F A,AP KO ob A.C (opG F A),Ch.many R]) rfl fun _ w17 h77 s21 _=>?_
   refine hK26 _ _ (s21.pk [1,2,3,4,5,6,7] rfl) fun hq20=>h77.sk [4,0,1,2] rfl fun h78=>?_
   refine wpAnyH_done κ ?_ _
   exact hJ13  _ _ (h78.subs rfl) s21 
 ·skip
  refine Cr h66 rfl rfl rfl (v:=σ ((F.at k).data)) (w':=w13.drew) ((rld h66 rfl rfl (NdP.c2 (F:=FsM.nE F) (A:=AdM.nC A) (k:=k) (s17.get 5 rfl:NdP _ _ _) (show k<F.N.length from ω) υ9 rfl))) fun _ h79=>hK21 _ _ (s17.pk [1,2,3,4,5,6,7] rfl) fun hq21=>?_
  refine to_ 5 rfl (wn rfl) κ fun _ hK27=>Cr h79 rfl rfl rfl (v:=ν ((s.2.length+1:Nat):Int)) (w':=w13.drew) ((DR h79 rfl rfl rfl (Kk (s17.get 3 rfl:PMap _ _ _ _) (s17.get 5 rfl:NdP _ _ _) hMk2 hkl hm2 (Kq hm)))) fun _ h80=>hK27 _ _ (s17.pk [1,2,3,4,5,6,7] rfl) fun hq22=>?_
  refine tv1 hq22 h80 10 rfl rfl (v:=.pointer (some ⟨g4,4,none⟩)) (fun w1 _=>(rfa h80 rfl rfl (fun w=>FF g4 0 w)) w1) fun _ h81=>?_
  refine to_ 11 rfl (wn rfl) κ fun _ hK28=>CV h81 rfl rfl s17 0 rfl rfl rfl [ν ((s.2.length+1:Nat):Int)] rfl κ rfl (by show 4+1≤6;decide) (L':=[ν r.dp,.string r.nm,ν r.cl,ν r.fd,ν ((s.2.length+1:Nat):Int),σ r.dt]) rfl (cs':=[Ah g4 76 [ν r.dp,.string r.nm,ν r.cl,ν r.fd,ν ((s.2.length+1:Nat):Int),σ r.dt],Ah sg 101 [.slice ra s.1.length rc,.map (some fb)],Ai 0 76 6 ra s.1.length rc (s.1.flatMap Cm),pmC iV fb (flL A (s.2++[k])),Ah cf 65 [π (A.ad 0),.map (some ob)],AO F A,AP KO ob A.C (opG F A),Ch.many R]) rfl fun _ w18 h82 s22 _=>?_
  refine hK28 _ _ (s22.pk [1,2,3,4,5,6,7] rfl) fun hq23=>?_
  refine tv1 hq23 h82 12 rfl rfl (v:=.pointer (some ⟨g4,5,none⟩)) (fun w1 _=>(rfa h82 rfl rfl (fun w=>Eu g4 0 w)) w1) fun _ h83=>?_
  refine to_ 13 rfl (wn rfl) κ fun _ hK29=>CV h83 rfl rfl s22 0 rfl rfl rfl [σ ((F.at k).data)] rfl κ rfl (by show 5+1≤6;decide) (L':=[ν r.dp,.string r.nm,ν r.cl,ν r.fd,ν ((s.2.length+1:Nat):Int),σ ((F.at k).data)]) rfl (cs':=[Ah g4 76 [ν r.dp,.string r.nm,ν r.cl,ν r.fd,ν ((s.2.length+1:Nat):Int),σ ((F.at k).data)],Ah sg 101 [.slice ra s.1.length rc,.map (some fb)],Ai 0 76 6 ra s.1.length rc (s.1.flatMap Cm),pmC iV fb (flL A (s.2++[k])),Ah cf 65 [π (A.ad 0),.map (some ob)],AO F A,AP KO ob A.C (opG F A),Ch.many R]) rfl fun _ w19 h84 s23 _=>?_
  refine hK29 _ _ (s23.pk [1,2,3,4,5,6,7] rfl) fun hq24=>h84.sk [4,0,1,2] rfl fun h85=>?_
  refine wpAnyH_done κ ?_ _
  exact hJ13  _ _ (h85.subs rfl) s23 
theorem SC {w:World} {cf ob:Nat} {F:FsM} {A:AdM} {R:List Ch} {δ:Nat→Int} {sg fb:Nat} {ra:Option Addr} {rc:Nat} {s:Rows} {r:RowM} {k:Nat} (hS0:Sep w ([Ah sg 101 [.slice ra s.1.length rc,.map (some fb)],Ai 0 76 6 ra s.1.length rc (s.1.flatMap Cm),pmC iV fb (flL A s.2),Ah cf 65 [π (A.ad 0),.map (some ob)],AO F A,AP KO ob A.C (opG F A)]++R)) (hok:FsC F δ) (hz:SmF F) (hkl:k<F.N.length) (hMk:MkOk F s.2) {n:Nat} (hd:F.dir k=true) (hfu:Fuel F (n+1) k) (hB0:(Dv F (n+1) r k s).1.length≤4000) (hr0:0≤r.dp) (hr1:r.dp+((n+1:Nat):Int)≤3000) (ih:∀ {w:World} {ra:Option Addr} {rc:Nat} {s:Rows} {r:RowM} {k:Nat} {R:List Ch},Fuel F n k→k<F.N.length→MkOk F s.2→(Dv F n r k s).1.length≤4000→0≤r.dp→r.dp+(n:Int)≤3000→Sep w ([Ah sg 101 [.slice ra s.1.length rc,.map (some fb)],Ai 0 76 6 ra s.1.length rc (s.1.flatMap Cm),pmC iV fb (flL A s.2),Ah cf 65 [π (A.ad 0),.map (some ob)],AO F A,AP KO ob A.C (opG F A)]++R)→CallsR Tryz.prog 60 #[π sg,.agg #[ν r.dp,.string r.nm,ν r.cl,ν r.fd,ν r.fl,σ r.dt],π (A.ad k)] w (fun v w'=>∃ ra' rc',v=.tuple #[]∧Sep w' ([Ah sg 101 [.slice ra' ((Dv F n r k s).1.length) rc',.map (some fb)],Ai 0 76 6 ra' ((Dv F n r k s).1).length rc' (((Dv F n r k s).1).flatMap Cm),pmC iV fb (flL A (Dv F n r k s).2),Ah cf 65 [π (A.ad 0),.map (some ob)],AO F A,AP KO ob A.C (opG F A)]++R))) :
  CallsR Tryz.prog 60 #[π sg,.agg #[ν r.dp,.string r.nm,ν r.cl,ν r.fd,ν r.fl,σ r.dt],π (A.ad k)] w (fun v w'=>∃ ra' rc',v=.tuple #[]∧Sep w' ([Ah sg 101 [.slice ra' ((Dv F (n+1) r k s).1.length) rc',.map (some fb)],Ai 0 76 6 ra' ((Dv F (n+1) r k s).1).length rc' (((Dv F (n+1) r k s).1).flatMap Cm),pmC iV fb (flL A (Dv F (n+1) r k s).2),Ah cf 65 [π (A.ad 0),.map (some ob)],AO F A,AP KO ob A.C (opG F A)]++R)):=by
 have hS:Sep w [Ah sg 101 [.slice ra s.1.length rc,.map (some fb)],Ai 0 76 6 ra s.1.length rc (s.1.flatMap Cm),pmC iV fb (flL A s.2),Ah cf 65 [π (A.ad 0),.map (some ob)],AO F A,AP KO ob A.C (opG F A),Ch.many R]:=Sep.tail_many (xs:=[_,_,_,_,_,_]) hS0;clear hS0
 have hz0:=hz;obtain ⟨hz1,hz2,hz3⟩:F.N.length≤1000∧F.E.length≤1000∧F.O.length≤1000:=hz
 have hMl:=hMk.len
 obtain ⟨L,hL⟩:∃ L,Aw (Al F.E k)=L:=⟨_,rfl⟩
 have hLl:L.length≤1000:=by rw [← hL,Ee];exact Nat.le_trans (Ev _ _) hz2
 obtain ⟨t,ht0⟩:∃ t,t=Cu F r k s:=⟨_,rfl⟩
 have hB:(addL F n r k L t).1.length≤4000:=by rw [Dw,← ht0,hL] at hB0;exact hB0
 have hMt:MkOk F t.2:=by rw [ht0];exact hMk.mark hkl
 have ht:t.1=s.1++[r]:=by rw [ht0,LB hd]
 have ht2:t.2=s.2:=by rw [ht0,LB hd]
 have htl:s.1.length+1=t.1.length:=by rw [ht];simp
 have htl2:=Oq F n r k L t
 have hr:s.1.length≤4000:=ω
 refine AE Tryz.func60 rfl (N:=74) Tryz.ntmps60 (by show 3≤74;decide) [(0,π sg),(1,.agg #[ν r.dp,.string r.nm,ν r.cl,ν r.fd,ν r.fl,σ r.dt]),(2,π (A.ad k))] rfl fun _ h1=>sqr fun _ hK3=>so (wn rfl) fun _ hK1=>Dc h1 rfl rfl rfl rfl rfl (z:=[ν r.dp,.string r.nm,ν r.cl,ν r.fd,ν r.fl,σ r.dt]) rfl hS fun _ g4 w7 h5 s8 _ _=>hK1 _ _ ?_
 refine wpList_nil<|hK3 _ _<|sq fun _ hK2=>sqr fun _ hK4=>mvs 2 h5 rfl fun _ h2=>sv1 h2 rfl (v:=π (A.ad k)) (rfa h2 rfl rfl (fun w=>AJ (A.ad k) 0 w)) fun _ h3=>sw1 h3 rfl (v:=ν (BY (F.dir k))) (rld h3 rfl rfl (NdP.c0 (F:=FsM.nE F) (A:=AdM.nC A) (k:=k) (s8.get 5 rfl:NdP _ _ _) (show k<F.N.length from ω) υ3 rfl)) fun _ h4=>bv h4 (z:=.bool (!(F.dir k))) rfl (cEq _ _ _ _ (Ks _)) fun _ h6=>h6.sn [12,4,0,1,2] rfl fun h7=>hK4 _ _<|wcF h7 rfl (Bq hd)<|h7.sk [4,0,1,2] rfl fun h8=>?_
 refine wp_skip<|hK2 _ _<|sq fun K1 hK5=>?_
 have hJ27:∀ (p5:Option Addr) (c5:Nat) a' w',Kn 74 [(4,π g4),(0,π sg),(1,.agg #[ν r.dp,.string r.nm,ν r.cl,ν r.fd,ν r.fl,σ r.dt]),(2,π (A.ad k))] a'→Sep w' [Ah g4 76 [ν r.dp,.string r.nm,ν r.cl,ν r.fd,ν r.fl,σ r.dt],Ah sg 101 [.slice p5 t.1.length c5,.map (some fb)],Ai 0 76 6 p5 t.1.length c5 (t.1.flatMap Cm),pmC iV fb (flL A s.2),Ah cf 65 [π (A.ad 0),.map (some ob)],AO F A,AP KO ob A.C (opG F A),Ch.many R]→K1 a' w':=by
  intro p5 c5 a1 w2 h9 s1
  refine hK5 _ _ ?_
  refine sqr fun _ hK6=>mv h9 rfl fun _ h10=>cl h10 rfl Dm ((by have z:=LR (cf:=cf) (A:=A) (F:=F) (s1.pk [4,5,6,0,1,2,3,7] rfl) hok hz0 hkl hd;rw [hL] at z;exact z)) fun _ v1 w3 r1 h11=>?_
  obtain ⟨sax35,scx36,rfl,s2⟩:=r1
  refine sv1 h11 rfl (v:=ν (L.length:Int)) (CR h11 rfl rfl υ33) fun _ h12=>mv h12 rfl fun _ h13=>h13.sn [56,55,54,4,0,1,2] rfl fun h14=>hK6 _ _<|wp_block ?_
  have s3:Sep w3 [Ai 0 9 1 sax35 L.length scx36 (L.flatMap sE),Ah g4 76 [ν r.dp,.string r.nm,ν r.cl,ν r.fd,ν r.fl,σ r.dt],Ah sg 101 [.slice p5 ((addL F n r k (L.take 0) t).1.length) c5,.map (some fb)],Ai 0 76 6 p5 ((addL F n r k (L.take 0) t).1).length c5 (((addL F n r k (L.take 0) t).1).flatMap Cm),pmC iV fb (flL A (addL F n r k (L.take 0) t).2),Ah cf 65 [π (A.ad 0),.map (some ob)],AO F A,AP KO ob A.C (opG F A),Ch.many R]:=by rw [List.take_zero,show addL F n r k [] t=t from rfl,ht2];exact (s2.pk [0,4,5,6,7,1,2,3,8] rfl)
  refine Fj (fun (j:Nat) (ra2:Option Addr) (rc2:Nat) a' w'=>Kn 74 [(56,ν (j:Int)),(55,ν (L.length:Int)),(54,.slice sax35 L.length scx36),(4,π g4),(0,π sg),(1,.agg #[ν r.dp,.string r.nm,ν r.cl,ν r.fd,ν r.fl,σ r.dt]),(2,π (A.ad k))] a'∧Sep w' [Ai 0 9 1 sax35 L.length scx36 (L.flatMap sE),Ah g4 76 [ν r.dp,.string r.nm,ν r.cl,ν r.fd,ν r.fl,σ r.dt],Ah sg 101 [.slice ra2 ((addL F n r k (L.take j) t).1.length) rc2,.map (some fb)],Ai 0 76 6 ra2 ((addL F n r k (L.take j) t).1).length rc2 (((addL F n r k (L.take j) t).1).flatMap Cm),pmC iV fb (flL A (addL F n r k (L.take j) t).2),Ah cf 65 [π (A.ad 0),.map (some ob)],AO F A,AP KO ob A.C (opG F A),Ch.many R]∧(j≤L.length)) (fun (j:Nat) (ra2:Option Addr) (rc2:Nat)=>L.length-j) 0 p5 c5 ⟨h14.subs rfl,s3,Nat.zero_le _⟩ ?_
  rintro j56 ra257 rc258 a2 w4 ⟨h15,s4,hj55⟩ K2 hK7
  refine sqr fun _ hK8=>bv h15 (z:=.bool (decide ((j56:Int)<(L.length:Int)))) rfl (cLt _ _ _ _ rfl) fun _ h16=>wpList_nil<|hK8 _ _<|sq fun _ hK9=>?_
  rcases bC (decide ((j56:Int)<(L.length:Int))) with hc1 | hc1
  ·skip
   have hp1:(j56:Int)<(L.length:Int):=(dT hc1)
   refine wcT h16 rfl hc1<|h16.sk [56,55,54,4,0,1,2] rfl fun h17=>wp_skip<|hK9 _ _<|sq fun _ hK10=>wp_block ?_
   refine sq fun _ hK11=>wp_region_lit ?_
   obtain ⟨q68,hq1⟩:=AT (s4.get 0 rfl:Own _ _ _ _ _ _ _ _)
   refine sv1 h17 rfl (v:=.pointer (some ⟨q68,j56,none⟩)) (Ay h17 rfl rfl rfl (fun w=>ixO υ33 κ (sz:=1) (hq1 ω) (j:=j56) rfl ω ω w)) fun _ h18=>sw1 h18 rfl (v:=.string (L.getD j56 AL)) (rld h18 rfl rfl (BJ Ea υ9 rfl (s4.get 0 rfl:Own _ _ _ _ _ _ _ _) (hq1 ω) AL (j:=j56) (f:=0) ω (by decide) ω rfl)) fun _ h19=>mv h19 rfl fun _ h20=>h20.sn [7,56,55,54,4,0,1,2] rfl fun h21=>hK11 _ _ ?_
   have hx:(L.getD j56 AL)∈Aw (Al F.E k):=by rw [hL,List.getD_eq_getElem?_getD,List.getElem?_eq_getElem ω];exact List.getElem_mem _
   have hlk:=(CQ hok hx).1
   have hcl:=GY hok k (L.getD j56 AL)
   have hbd:(Dv F n (Fu r (L.getD j56 AL)) (Au F k (L.getD j56 AL)) (addL F n r k (L.take j56) t)).1.length≤4000:=by rw [Lt F n r k t (ω:j56<L.length)];exact Nat.le_trans (Pb F n r k L _ t) hB
   have s5:=s4.drew
   refine wp_region_held_drew (S:=fun w'=>Sep w' [Ai 0 9 1 sax35 L.length scx36 (L.flatMap sE),Ah g4 76 [ν r.dp,.string r.nm,ν r.cl,ν r.fd,ν r.fl,σ r.dt],Ah cf 65 [π (A.ad 0),.map (some ob)],AO F A,AP KO ob A.C (opG F A),Ch.many R]) κ (s5.pk [0,1,5,6,7,8] rfl) (fun hq2=>?_)
   refine tv1 hq2 h21 0 rfl rfl (v:=π sg) (fun w1 _=>(Aq h21 rfl rfl) w1) fun _ h22=>?_
   refine tv1 hq2 h22 1 rfl rfl (v:=π g4) (fun w1 _=>(rfa h22 rfl rfl (fun w=>IK g4 0 w)) w1) fun _ h23=>?_
   refine tv1 hq2 h23 2 rfl rfl (v:=ν r.dp) (fun w1 hSw=>(rld h23 rfl rfl (ldB υ3 rfl (hSw.get 1 rfl:Blk _ _ _ _) rfl))) fun _ h24=>?_
   refine tv1 hq2 h24 3 rfl rfl (v:=ν (r.dp+1)) (fun w1 _=>(BF h24 rfl rfl rfl (DG _ _ _ ω ω ω)) w1) fun _ h25=>?_
   refine tv1 hq2 h25 4 rfl rfl (v:=.string (L.getD j56 AL)) (fun w1 _=>(Aq h25 rfl rfl) w1) fun _ h26=>?_
   refine tv1 hq2 h26 5 rfl rfl (v:=.agg #[ν (r.dp+1),.string (L.getD j56 AL),ν 0,ν 0,ν 0,σ []]) (fun w1 _=>(Fo h26 (xs:=[(0,.tmp 63),(1,.tmp 64)]) rfl (vs:=[(0,ν (r.dp+1)),(1,.string (L.getD j56 AL))]) rfl (fun w=>κ)) w1) fun _ h27=>?_
   refine tv1 hq2 h27 6 rfl rfl (v:=π (A.ad k)) (fun w1 _=>(Aq h27 rfl rfl) w1) fun _ h28=>?_
   refine tv1 hq2 h28 7 rfl rfl (v:=π (A.ad k)) (fun w1 _=>(CJ h28 rfl rfl) w1) fun _ h29=>?_
   refine tv1 hq2 h29 8 rfl rfl (v:=.pointer (some ⟨(A.ad k),3,none⟩)) (fun w1 _=>(rfa h29 rfl rfl (fun w=>AQ (A.ad k) 0 w)) w1) fun _ h30=>?_
   refine tv1 hq2 h30 10 rfl rfl (v:=.string (L.getD j56 AL)) (fun w1 _=>(Aq h30 rfl rfl) w1) fun _ h31=>?_
   refine to_ 9 rfl (wn rfl) κ fun _ hK12=>Cr h31 rfl rfl rfl (v:=.map (some (A.mb k))) (w':=w4.drew) ((rld h31 rfl rfl (NdP.c3 (F:=FsM.nE F) (A:=AdM.nC A) (k:=k) (s5.get 6 rfl:NdP _ _ _) (show k<F.N.length from ω) hd υ95 rfl))) fun _ h32=>hK12 _ _ (s5.pk [0,1,5,6,7,8] rfl) fun hq3=>?_
   refine to_ 11 rfl (wn rfl) κ fun _ hK13=>Cr h32 rfl rfl rfl (v:=π (A.ad (Au F k (L.getD j56 AL)))) (w':=w4.drew) ((DR h32 rfl rfl rfl (NdP.lookY (F:=FsM.nE F) (A:=AdM.nC A) (k:=k) (s5.get 6 rfl:NdP _ _ _) (show k<F.N.length from ω) hd (CU (Jp hok ((Db _).mem_iff.1 hx))) hlk))) fun _ h33=>hK13 _ _ (s5.pk [0,1,5,6,7,8] rfl) fun hq4=>?_
   refine to_ 12 rfl (wn rfl) κ fun _ hK14=>CK h33 rfl rfl rfl (xs:=[.tmp 60,.tmp 65,.tmp 71]) rfl GS rfl (vs:=[π sg,.agg #[ν (r.dp+1),.string (L.getD j56 AL),ν 0,ν 0,ν 0,σ []],π (A.ad (Au F k (L.getD j56 AL)))]) rfl (args:=#[π sg,.agg #[ν (r.dp+1),.string (L.getD j56 AL),ν 0,ν 0,ν 0,σ []],π (A.ad (Au F k (L.getD j56 AL)))]) rfl (ih (s:=(addL F n r k (L.take j56) t)) (r:=Fu r (L.getD j56 AL)) (k:=Au F k (L.getD j56 AL)) (Fuel.sub hok hfu hx) hcl (MkOk.addL hok n r k _ t hMt) hbd (ω:0≤r.dp+1) (ω:r.dp+1+(n:Int)≤3000) (s5.pk [2,3,4,5,6,7,0,1,8] rfl)) fun _ v2 w5 r2 h34=>?_
   obtain ⟨rax108,rcx109,rfl,s6⟩:=r2
   refine hK14 _ _ (s6.pk [6,7,3,4,5,8] rfl) fun hq5=>h34.sk [7,56,55,54,4,0,1,2] rfl fun h35=>?_
   refine wpAnyH_done κ ?_ _
   refine hK10 _ _ ?_
   refine wp_region_lit<|bv h35 (z:=ν ((j56+1:Nat):Int)) rfl (DG _ _ _ ω ω ω) fun _ h36=>h36.sk [73,7,55,54,4,0,1,2] rfl fun h37=>mv h37 rfl fun _ h38=>h38.sk [56,7,55,54,4,0,1,2] rfl fun h39=>wpList_nil ?_
   exact hK7 (j56+1) rax108 rcx109 _ _ ⟨h39.subs rfl,(by rw [← Lt F n r k t (ω:j56<L.length)];exact (s6.pk [6,7,0,1,2,3,4,5,8] rfl)),ω⟩ ω
  ·skip
   have hp2:¬ ((j56:Int)<(L.length:Int)):=(dF hc1)
   refine wcF h16 rfl hc1<|h16.sk [56,55,54,4,0,1,2] rfl fun h40=>wp_exit ?_
   simp only [Exit.then,Exit.inBlock,↓reduceIte,Nat.reduceEqDiff]
   refine Nz (v:=.tuple #[]) (fun _=>NX rfl _) h40.defs ?_
   rw [Dw,← ht0,hL]
   have hjl:j56=L.length:=ω
   rw [hjl,List.take_length] at s4
   exact ⟨_,_,rfl,Sep.tail_un (xs:=[_,_,_,_,_,_]) (s4.pk [2,3,4,5,6,7,8] rfl)⟩
 have s7:=s8.drew
 refine wp_region_held_drew (S:=fun w'=>Sep w' [Ah g4 76 [ν r.dp,.string r.nm,ν r.cl,ν r.fd,ν r.fl,σ r.dt],pmC iV fb (flL A s.2),Ah cf 65 [π (A.ad 0),.map (some ob)],AO F A,AP KO ob A.C (opG F A),Ch.many R]) κ (s7.pk [0,3,4,5,6,7] rfl) (fun hq6=>?_)
 refine tv1 hq6 h8 0 rfl rfl (v:=π sg) (fun w1 _=>(Aq h8 rfl rfl) w1) fun _ h41=>?_
 refine tv1 hq6 h41 1 rfl rfl (v:=π sg) (fun w1 _=>(Aq h41 rfl rfl) w1) fun _ h42=>?_
 refine tv1 hq6 h42 2 rfl rfl (v:=π sg) (fun w1 _=>(CJ h42 rfl rfl) w1) fun _ h43=>?_
 refine tv1 hq6 h43 3 rfl rfl (v:=π sg) (fun w1 _=>(rfa h43 rfl rfl (fun w=>Ei sg 0 w)) w1) fun _ h44=>?_
 refine tv1 hq6 h44 5 rfl rfl (v:=.agg #[ν r.dp,.string r.nm,ν r.cl,ν r.fd,ν r.fl,σ r.dt]) (fun w1 hSw=>(rld h44 rfl rfl (ldA υ76 rfl (n:=6) κ (hSw.get 0 rfl:Blk _ _ _ _) rfl rfl))) fun _ h45=>?_
 refine wpAnyH_ready (rs:=[4,6]) κ (by simp) (toc rfl (wn rfl) (fun K3 hK15=>?_) (toc rfl (wn rfl) (fun K3 hK15=>?_) AllReadyH.nil))
 ·skip
  refine Cr h45 rfl rfl rfl (v:=.slice ra s.1.length rc) (w':=w7.drew) ((rld h45 rfl rfl (ldB υ74 rfl (s7.get 1 rfl:Blk _ _ _ _) rfl))) fun _ h46=>hK15 _ _ (s7.pk [0,3,4,5,6,7] rfl) fun hq7=>?_
  refine to_ 6 rfl (wn rfl) κ fun _ hK16=>Dd h46 rfl rfl rfl (E:=76) (xs:=[(0,.tmp 48)]) rfl (vs:=[(0,.agg #[ν r.dp,.string r.nm,ν r.cl,ν r.fd,ν r.fl,σ r.dt])]) rfl (z:=[ν r.dp,.string r.nm,ν r.cl,ν r.fd,ν r.fl,σ r.dt]) (fun _=>κ) s7 fun _ g1 w6 h47 s9 _ _=>?_
  refine hK16 _ _ (s9.pk [1,4,5,6,7,8] rfl) fun hq8=>?_
  refine to_ 7 rfl (wn rfl) κ fun _ hK17=>EQ Fh h47 rfl rfl rfl rfl ERw s9 3 rfl rfl 0 (y:=(⟨r.dp,r.nm,r.cl,r.fd,r.fl,r.dt⟩:RowM)) rfl rfl rfl (by decide) ω (L':=t.1) ht.symm fun _ p152 c153 w8 h48 s10=>?_
  have s11:=s10.pk [1,2,3,4,5,6,7,8] rfl;clear s10
  refine hK17 _ _ (s11.pk [0,3,4,5,6,7] rfl) fun hq9=>?_
  refine tv1 hq9 h48 8 rfl rfl (v:=π sg) (fun w1 _=>(CJ h48 rfl rfl) w1) fun _ h49=>?_
  refine tv1 hq9 h49 9 rfl rfl (v:=π sg) (fun w1 _=>(rfa h49 rfl rfl (fun w=>Ei sg 0 w)) w1) fun _ h50=>?_
  refine to_ 10 rfl (wn rfl) κ fun _ hK18=>CV h50 rfl rfl s11 1 rfl rfl rfl [.slice p152 t.1.length c153] rfl κ rfl (by show 0+1≤2;decide) (L':=[.slice p152 t.1.length c153,.map (some fb)]) rfl (cs':=[Ah g4 76 [ν r.dp,.string r.nm,ν r.cl,ν r.fd,ν r.fl,σ r.dt],Ah sg 101 [.slice p152 t.1.length c153,.map (some fb)],Ai 0 76 6 p152 t.1.length c153 (t.1.flatMap Cm),pmC iV fb (flL A s.2),Ah cf 65 [π (A.ad 0),.map (some ob)],AO F A,AP KO ob A.C (opG F A),Ch.many R]) rfl fun _ w9 h51 s12 _=>?_
  refine hK18 _ _ (s12.pk [0,3,4,5,6,7] rfl) fun hq10=>h51.sk [4,0,1,2] rfl fun h52=>?_
  refine wpAnyH_done κ ?_ _
  exact hJ27 p152 c153 _ _ (h52.subs rfl) s12 
 ·skip
  refine Dd h45 rfl rfl rfl (E:=76) (xs:=[(0,.tmp 48)]) rfl (vs:=[(0,.agg #[ν r.dp,.string r.nm,ν r.cl,ν r.fd,ν r.fl,σ r.dt])]) rfl (z:=[ν r.dp,.string r.nm,ν r.cl,ν r.fd,ν r.fl,σ r.dt]) (fun _=>κ) s7 fun _ g2 w10 h53 s13 _ _=>hK15 _ _ (s13.pk [1,4,5,6,7,8] rfl) fun hq11=>?_
  refine to_ 4 rfl (wn rfl) κ fun _ hK19=>Cr h53 rfl rfl rfl (v:=.slice ra s.1.length rc) (w':=w10) ((rld h53 rfl rfl (ldB υ74 rfl (s13.get 2 rfl:Blk _ _ _ _) rfl))) fun _ h54=>hK19 _ _ (s13.pk [1,4,5,6,7,8] rfl) fun hq12=>?_
  refine to_ 7 rfl (wn rfl) κ fun _ hK20=>EQ Fh h54 rfl rfl rfl rfl ERw s13 3 rfl rfl 0 (y:=(⟨r.dp,r.nm,r.cl,r.fd,r.fl,r.dt⟩:RowM)) rfl rfl rfl (by decide) ω (L':=t.1) ht.symm fun _ p185 c186 w11 h55 s14=>?_
  have s15:=s14.pk [1,2,3,4,5,6,7,8] rfl;clear s14
  refine hK20 _ _ (s15.pk [0,3,4,5,6,7] rfl) fun hq13=>?_
  refine tv1 hq13 h55 8 rfl rfl (v:=π sg) (fun w1 _=>(CJ h55 rfl rfl) w1) fun _ h56=>?_
  refine tv1 hq13 h56 9 rfl rfl (v:=π sg) (fun w1 _=>(rfa h56 rfl rfl (fun w=>Ei sg 0 w)) w1) fun _ h57=>?_
  refine to_ 10 rfl (wn rfl) κ fun _ hK21=>CV h57 rfl rfl s15 1 rfl rfl rfl [.slice p185 t.1.length c186] rfl κ rfl (by show 0+1≤2;decide) (L':=[.slice p185 t.1.length c186,.map (some fb)]) rfl (cs':=[Ah g4 76 [ν r.dp,.string r.nm,ν r.cl,ν r.fd,ν r.fl,σ r.dt],Ah sg 101 [.slice p185 t.1.length c186,.map (some fb)],Ai 0 76 6 p185 t.1.length c186 (t.1.flatMap Cm),pmC iV fb (flL A s.2),Ah cf 65 [π (A.ad 0),.map (some ob)],AO F A,AP KO ob A.C (opG F A),Ch.many R]) rfl fun _ w12 h58 s16 _=>?_
  refine hK21 _ _ (s16.pk [0,3,4,5,6,7] rfl) fun hq14=>h58.sk [4,0,1,2] rfl fun h59=>?_
  refine wpAnyH_done κ ?_ _
  exact hJ27 p185 c186 _ _ (h59.subs rfl) s16 
theorem Qm {F:FsM} {A:AdM} {δ:Nat→Int} {cf ob sg fb:Nat} (hok:FsC F δ) (hz:SmF F):∀ (n:Nat) {w:World} {ra:Option Addr} {rc:Nat} {s:Rows} {r:RowM} {k:Nat} {R:List Ch},Fuel F n k→k<F.N.length→MkOk F s.2→(Dv F n r k s).1.length≤4000→0≤r.dp→r.dp+(n:Int)≤3000→Sep w ([Ah sg 101 [.slice ra s.1.length rc,.map (some fb)],Ai 0 76 6 ra s.1.length rc (s.1.flatMap Cm),pmC iV fb (flL A s.2),Ah cf 65 [π (A.ad 0),.map (some ob)],AO F A,AP KO ob A.C (opG F A)]++R)→CallsR Tryz.prog 60 #[π sg,.agg #[ν r.dp,.string r.nm,ν r.cl,ν r.fd,ν r.fl,σ r.dt],π (A.ad k)] w (fun v w'=>∃ ra' rc',v=.tuple #[]∧Sep w' ([Ah sg 101 [.slice ra' ((Dv F n r k s).1.length) rc',.map (some fb)],Ai 0 76 6 ra' ((Dv F n r k s).1).length rc' (((Dv F n r k s).1).flatMap Cm),pmC iV fb (flL A (Dv F n r k s).2),Ah cf 65 [π (A.ad 0),.map (some ob)],AO F A,AP KO ob A.C (opG F A)]++R))
 | n,w,ra,rc,s,r,k,R,hfu,hk,hM,hB,h0,h1,hS=>by
  cases hd:F.dir k with
  | false=>
   rw [OZ hok hd] at hB ⊢
   have:=Gp F r k s
   by_cases hm:k∈s.2
   ·exact Ql hS hok hz hk hM hd hm ω
   ·exact Qk hS hok hz hk hM hd hm ω
  | true=>
   obtain ⟨m,rfl⟩:=hfu.pos hok hd
   exact SC hS hok hz hk hM hd hfu hB h0 h1 (fun a b c d e f g=>Qm hok hz m a b c d e f g)
termination_by n=>n
end
section
theorem Sa (p:Int×Int):(kvC p).length=2:=rfl
theorem Pd (F:FsM) (t:Rows) {P:List (Int×Int)} {j:Nat} (hj:j<P.length):Cu F (Ig (P.getD j (0,0))) (Cv F (P.getD j (0,0))) (addO F (P.take j) t)=addO F (P.take (j+1)) t:=by
 rw [← Pc,List.take_succ_eq_append_getElem hj,List.getD_eq_getElem?_getD,List.getElem?_eq_getElem hj];rfl
theorem NN {F:FsM} {δ:Nat→Int} (hF:FsC F δ) {p:Int×Int} (h:p∈DS F):Az F.O p.1 p.2=some (Cv F p):=by
 obtain ⟨m,hm⟩:=Option.isSome_iff_exists.1 ((DX hF).1 h)
 unfold Cv;rw [hm];rfl
theorem MkOk.addO {F:FsM} {δ:Nat→Int} (hF:FsC F δ) (P:List (Int×Int)) (t:Rows) (h:MkOk F t.2):MkOk F (addO F P t).2:=by
 induction P generalizing t with
 | nil=>exact h
 | cons p P ih=>
  refine ih _ (h.mark ?_)
  unfold Cv
  cases hl:Az F.O p.1 p.2 with
  | none=>exact hF.n0.1
  | some m=>exact (hF.look_fd hl).1
theorem EM (args:Array Value) (w:World):(callFunc 60 args).run Tryz.prog w=.ok (.enter 60 args) w:=by
 have h:=Tryz.func60
 go_simp
theorem BT (args:Array Value) (w:World):(callFunc 62 args).run Tryz.prog w=.ok (.enter 62 args) w:=by
 have h:=Tryz.func62
 go_simp
theorem DN (args:Array Value) (w:World):(callFunc 61 args).run Tryz.prog w=.ok (.enter 61 args) w:=by
 have h:=Tryz.func61
 go_simp
theorem If (g off:Nat) (w:World):(Instr.fieldAt 101 (.pointer (some ⟨g,off,none⟩)) 0).run Tryz.prog w=.ok (.pointer (some ⟨g,off+0,none⟩)) w:=rfl
theorem Rt {w:World} {cf ob:Nat} {F:FsM} {A:AdM} {R:List Ch} {δ:Nat→Int} (hS0:Sep w ((cP cf ob F A)++R)) (hok:FsC F δ) (hz:SmF F) :
  CallsR Tryz.prog 31 #[π cf] w (fun v w'=>∃ xa xc,v=.slice xa (CD F).length xc∧Sep w' (Ai 0 76 6 xa (CD F).length xc ((CD F).flatMap Cm)::(cP cf ob F A)++R)):=by
 have hS:=Sep.tail_many (xs:=cP cf ob F A) hS0;clear hS0
 have hz0:=hz;obtain ⟨hz1,hz2,hz3⟩:F.N.length≤1000∧F.E.length≤1000∧F.O.length≤1000:=hz
 obtain ⟨t0,ht0⟩:∃ t,t=Dv F 1000 De 0 ([],[]):=⟨_,rfl⟩
 obtain ⟨P,hP⟩:∃ P,DS F=P:=⟨_,rfl⟩
 have hPl:(DS F).length=P.length:=by rw [hP]
 have hPn:=IL F
 have hB:=MZ hok 1000
 rw [← ht0] at hB
 have hMt:MkOk F t0.2:=by rw [ht0];exact MkOk.add hok 1000 De 0 ([],[]) MkOk.nil hok.n0.1
 have hn0:=hok.n0.1
 refine AE Tryz.func31 rfl (N:=42) Tryz.ntmps31 (by show 1≤42;decide) [(0,π cf)] rfl fun _ h1=>sqr fun _ hK3=>mv h1 rfl fun _ h4=>wpList_nil<|hK3 _ _<|sqr fun _ hK6=>so (wn rfl) fun _ hK1=>Tb (av:=iV) h4 rfl rfl rfl rfl hS fun _ fb7 w2 h8 s1=>hK1 _ _ ?_
 refine bu h8 (v:=.agg #[.slice none 0 0,.map (some fb7)]) rfl (fun w=>κ) fun _ h2=>so (wn rfl) fun _ hK2=>Dc h2 rfl rfl rfl rfl rfl (z:=[.slice none 0 0,.map (some fb7)]) rfl s1 fun _ g1 w3 h3 s2 _ _=>hK2 _ _ ?_
 refine mv h3 rfl fun _ h5=>h5.sn [3,2,0] rfl fun h6=>hK6 _ _<|sq fun _ hK4=>?_
 have s3:=s2.ownNil 0 76 6
 refine wp_region_lit<|mv h6 rfl fun _ h7=>bu h7 (v:=.agg #[ν 0,σ [],ν 0,ν 0,ν 0,σ []]) rfl (fun w=>κ) fun _ h9=>mvs 2 h9 rfl fun _ h10=>fav h10 rfl (Em _ _) fun _ h11=>ldv h11 s3 3 υ62 rfl rfl rfl rfl fun _ h12=>cl h12 rfl EM ((by have z:=Qm (s:=([],[])) (r:=De) (k:=0) (cf:=cf) (ob:=ob) (A:=A) hok hz0 1000 (fun _=>⟨[],rfl,by rw [List.length_nil];omega⟩) hok.n0.1 MkOk.nil (by rw [← ht0];omega) (by decide) (by decide) (s3.pk [1,0,2,3,4,5,6] rfl);rw [← ht0] at z;exact z)) fun _ v1 w4 r1 h13=>?_
 obtain ⟨rax40,rcx41,rfl,s4⟩:=r1
 refine h13.sn [3,2,0] rfl fun h14=>hK4 _ _<|sq fun _ hK5=>sqr fun _ hK7=>mvs 2 h14 rfl fun _ h15=>fav h15 rfl (Cj _ _) fun _ h16=>ldv h16 s4 3 υ63 rfl rfl rfl rfl fun _ h17=>cl h17 rfl BT (RX (s4.pk [5,0,1,2,3,4,6] rfl)) fun _ v2 w5 r2 h18=>?_
 obtain ⟨lb67,rfl,hky66,s5⟩:=r2
 refine cl h18 rfl DN (PU (F:=F) s5 hky66 (QU hok) (by have:=IL F;omega) (fun h=>Tt hok h)) fun _ v3 w6 r3 h19=>?_
 obtain ⟨dax69,dcx70,rfl,s6⟩:=r3
 refine sv1 h19 rfl (v:=ν (((DS F).length:Nat):Int)) (CR h19 rfl rfl υ103) fun _ h20=>mv h20 rfl fun _ h21=>h21.sn [23,22,21,3,2,0] rfl fun h22=>hK7 _ _<|wp_block ?_
 have s7:Sep w6 [Ai 0 68 2 dax69 P.length dcx70 (P.flatMap kvC),Ah g1 101 [.slice rax40 ((addO F (P.take 0) t0).1.length) rcx41,.map (some fb7)],Ai 0 76 6 rax40 ((addO F (P.take 0) t0).1).length rcx41 (((addO F (P.take 0) t0).1).flatMap Cm),pmC iV fb7 (flL A (addO F (P.take 0) t0).2),Ah cf 65 [π (A.ad 0),.map (some ob)],AO F A,AP KO ob A.C (opG F A),Ch.many R]:=by rw [List.take_zero,show addO F [] t0=t0 from rfl,← hP];exact (s6.pk [0,2,3,4,5,6,1,7] rfl)
 rw [hPl] at h22
 refine Fj (fun (j:Nat) (ra2:Option Addr) (rc2:Nat) a' w'=>Kn 42 [(23,ν (j:Int)),(22,ν ((P.length:Nat):Int)),(21,.slice dax69 P.length dcx70),(3,π g1),(2,.slice none 0 0),(0,π cf)] a'∧Sep w' [Ai 0 68 2 dax69 P.length dcx70 (P.flatMap kvC),Ah g1 101 [.slice ra2 ((addO F (P.take j) t0).1.length) rc2,.map (some fb7)],Ai 0 76 6 ra2 ((addO F (P.take j) t0).1).length rc2 (((addO F (P.take j) t0).1).flatMap Cm),pmC iV fb7 (flL A (addO F (P.take j) t0).2),Ah cf 65 [π (A.ad 0),.map (some ob)],AO F A,AP KO ob A.C (opG F A),Ch.many R]∧(j≤P.length)) (fun (j:Nat) (ra2:Option Addr) (rc2:Nat)=>P.length-j) 0 rax40 rcx41 ⟨h22.subs rfl,s7,Nat.zero_le _⟩ ?_
 rintro j90 ra291 rc292 a1 w7 ⟨h23,s8,hj89⟩ K1 hK8
 refine sqr fun _ hK9=>bv h23 (z:=.bool (decide ((j90:Int)<((P.length:Nat):Int)))) rfl (cLt _ _ _ _ rfl) fun _ h24=>wpList_nil<|hK9 _ _<|sq fun _ hK10=>?_
 rcases bC (decide ((j90:Int)<((P.length:Nat):Int))) with hc1 | hc1
 ·skip
  have hp1:(j90:Int)<((P.length:Nat):Int):=(dT hc1)
  refine wcT h24 rfl hc1<|h24.sk [23,22,21,3,2,0] rfl fun h25=>wp_skip<|hK10 _ _<|sq fun _ hK11=>wp_block ?_
  refine sq fun _ hK12=>wp_region_lit ?_
  obtain ⟨q102,hq1⟩:=AT (s8.get 0 rfl:Own _ _ _ _ _ _ _ _)
  refine sv1 h25 rfl (v:=.pointer (some ⟨q102,j90*2,none⟩)) (Ay h25 rfl rfl rfl (fun w=>ixO υ103 κ (sz:=2) (hq1 ω) (j:=j90) rfl ω ω w)) fun _ h26=>sw1 h26 rfl (v:=.agg #[ν ((P.getD j90 (0,0)).1),ν ((P.getD j90 (0,0)).2)]) (rld h26 rfl rfl (Lj Sa υ68 rfl κ (s8.get 0 rfl:Own _ _ _ _ _ _ _ _) (hq1 ω) (0,0) ω rfl)) fun _ h27=>so (wn rfl) fun _ hK13=>BE h27 rfl rfl rfl rfl (z:=[ν 0,ν 0]) (fun _=>rfl) s8 fun _ g2 w8 h28 s9 _ _=>hK13 _ _ ?_
  refine stA h28 s9 0 rfl rfl rfl κ rfl rfl rfl rfl fun _ w9 h29 s10 _=>h29.sn [5,23,22,21,3,2,0] rfl fun h30=>hK12 _ _ ?_
  have hx:(P.getD j90 (0,0))∈DS F:=by rw [hP,List.getD_eq_getElem?_getD,List.getElem?_eq_getElem ω];exact List.getElem_mem _
  have hlk:=NN hok hx
  have hnf:=hok.look_fd hlk
  have hwx:=wfO hok hlk
  have hbd:(Dv F 0 (Ig (P.getD j90 (0,0))) (Cv F (P.getD j90 (0,0))) (addO F (P.take j90) t0)).1.length≤4000:=by show (Cu _ _ _ _).1.length≤_;rw [Gp,Mv,List.length_take];omega
  have s11:=s10.drew
  refine wp_region_held_drew (S:=fun w'=>Sep w' [Ah g2 68 [ν ((P.getD j90 (0,0)).1),ν ((P.getD j90 (0,0)).2)],Ai 0 68 2 dax69 P.length dcx70 (P.flatMap kvC),Ah cf 65 [π (A.ad 0),.map (some ob)],AO F A,AP KO ob A.C (opG F A),Ch.many R]) κ (s11.pk [0,1,5,6,7,8] rfl) (fun hq2=>?_)
  refine tv1 hq2 h30 0 rfl rfl (v:=π g1) (fun w1 _=>(Aq h30 rfl rfl) w1) fun _ h31=>?_
  refine tv1 hq2 h31 1 rfl rfl (v:=.agg #[ν ((P.getD j90 (0,0)).1),ν ((P.getD j90 (0,0)).2)]) (fun w1 hSw=>(rld h31 rfl rfl (ldA υ68 rfl (n:=2) κ (hSw.get 0 rfl:Blk _ _ _ _) rfl rfl))) fun _ h32=>?_
  refine tv1 hq2 h32 2 rfl rfl (v:=.agg #[ν 0,σ [],ν ((P.getD j90 (0,0)).1),ν ((P.getD j90 (0,0)).2),ν 0,σ []]) (fun w1 _=>(Fo h32 (xs:=[(2,.tmp 28)]) rfl (vs:=[(2,.agg #[ν ((P.getD j90 (0,0)).1),ν ((P.getD j90 (0,0)).2)])]) rfl (fun w=>κ)) w1) fun _ h33=>?_
  refine tv1 hq2 h33 3 rfl rfl (v:=π cf) (fun w1 _=>(Aq h33 rfl rfl) w1) fun _ h34=>?_
  refine tv1 hq2 h34 4 rfl rfl (v:=π cf) (fun w1 _=>(CJ h34 rfl rfl) w1) fun _ h35=>?_
  refine tv1 hq2 h35 5 rfl rfl (v:=.pointer (some ⟨cf,1,none⟩)) (fun w1 _=>(rfa h35 rfl rfl (fun w=>Cj cf 0 w)) w1) fun _ h36=>?_
  refine tv1 hq2 h36 6 rfl rfl (v:=.map (some ob)) (fun w1 hSw=>(rld h36 rfl rfl (ldB υ63 rfl (hSw.get 2 rfl:Blk _ _ _ _) rfl))) fun _ h37=>?_
  refine tv1 hq2 h37 7 rfl rfl (v:=.agg #[ν ((P.getD j90 (0,0)).1),ν ((P.getD j90 (0,0)).2)]) (fun w1 hSw=>(rld h37 rfl rfl (ldA υ68 rfl (n:=2) κ (hSw.get 0 rfl:Blk _ _ _ _) rfl rfl))) fun _ h38=>?_
  refine to_ 8 rfl (wn rfl) κ fun _ hK14=>Cr h38 rfl rfl rfl (v:=π (A.ad (Cv F (P.getD j90 (0,0))))) (w':=w9.drew) ((DR h38 rfl rfl rfl (IV (F:=F) (A:=A) (s11.get 7 rfl:MapG KO _ _ _ _) hwx hlk))) fun _ h39=>hK14 _ _ (s11.pk [0,1,5,6,7,8] rfl) fun hq3=>?_
  refine to_ 9 rfl (wn rfl) κ fun _ hK15=>CK h39 rfl rfl rfl (xs:=[.tmp 27,.tmp 29,.tmp 35]) rfl EM rfl (vs:=[π g1,.agg #[ν 0,σ [],ν ((P.getD j90 (0,0)).1),ν ((P.getD j90 (0,0)).2),ν 0,σ []],π (A.ad (Cv F (P.getD j90 (0,0))))]) rfl (args:=#[π g1,.agg #[ν 0,σ [],ν ((P.getD j90 (0,0)).1),ν ((P.getD j90 (0,0)).2),ν 0,σ []],π (A.ad (Cv F (P.getD j90 (0,0))))]) rfl (Qm (s:=(addO F (P.take j90) t0)) (r:=Ig (P.getD j90 (0,0))) (k:=Cv F (P.getD j90 (0,0))) (cf:=cf) (ob:=ob) (A:=A) hok hz0 0 (fun q=>absurd q (Sv hnf.2)) hnf.1 (MkOk.addO hok _ _ hMt) hbd (Int.le_refl 0) (show (0:Int)+0≤3000 by decide) (s11.pk [2,3,4,5,6,7,0,1,8] rfl)) fun _ v4 w10 r4 h40=>?_
  obtain ⟨rax146,rcx147,rfl,s12⟩:=r4
  refine hK15 _ _ (s12.pk [6,7,3,4,5,8] rfl) fun hq4=>h40.sk [5,23,22,21,3,2,0] rfl fun h41=>?_
  refine wpAnyH_done κ ?_ _
  refine hK11 _ _ ?_
  refine wp_region_lit<|bv h41 (z:=ν ((j90+1:Nat):Int)) rfl (DG _ _ _ ω ω ω) fun _ h42=>h42.sk [37,5,22,21,3,2,0] rfl fun h43=>mv h43 rfl fun _ h44=>h44.sk [23,5,22,21,3,2,0] rfl fun h45=>wpList_nil ?_
  exact hK8 (j90+1) rax146 rcx147 _ _ ⟨h45.subs rfl,(by rw [← Pd F t0 (ω:j90<P.length)];exact (s12.pk [7,0,1,2,3,4,5,8] rfl)),ω⟩ ω
 ·skip
  have hp2:¬ ((j90:Int)<((P.length:Nat):Int)):=(dF hc1)
  refine wcF h24 rfl hc1<|h24.sk [23,22,21,3,2,0] rfl fun h46=>wp_exit ?_
  refine hK5 _ _ ?_
  refine sqr fun _ hK16=>mvs 2 h46 rfl fun _ h47=>fav h47 rfl (If _ _) fun _ h48=>ldv h48 s8 1 υ74 rfl rfl rfl rfl fun _ h49=>h49.sk [41,40,39,38,23,22,21,3,0] rfl fun h50=>mv h50 rfl fun _ h51=>h51.sn [2,23,22,21,3,0] rfl fun h52=>hK16 _ _<|wp_ret ?_
  try simp only [Exit.then,Exit.inBlock]
  refine Bi (v:=.slice ra291 ((addO F (P.take j90) t0).1.length) rc292) (Ce h52 rfl rfl) h52.defs ?_
  have hjl:j90=P.length:=ω
  rw [hjl,List.take_length] at s8
  have hrw:CD F=(addO F P t0).1:=by unfold CD MY;rw [hP,← ht0]
  rw [hrw]
  exact ⟨_,_,by rw [hjl,List.take_length],Sep.tail_un (xs:=[_,_,_,_]) (s8.pk [2,4,5,6,7] rfl)⟩
end
section
def IX (a b:RowM):Bool:=decide (a.dp=b.dp∧a.nm=b.nm∧a.cl=b.cl∧a.fd=b.fd∧a.fl=b.fl∧a.dt=b.dt)
theorem KM {a b:RowM}:IX a b=true↔a=b:=by
  unfold IX
  rw [decide_eq_true_iff]
  obtain ⟨a0,a1,a2,a3,a4,a5⟩:=a
  obtain ⟨b0,b1,b2,b3,b4,b5⟩:=b
  simp
theorem Sl (x y:ByteArray):x.toList=y.toList↔x=y:=by
  rw [ByteArray.toList_eq,ByteArray.toList_eq]
  exact ⟨fun h=>ByteArray.ext (Array.toList_inj.1 h),fun h=>by rw [h]⟩
theorem QK (a b:RowM) (w:World):(Op.equalIn 10000 76 (.agg (Cm a).toArray) (.agg (Cm b).toArray)).run Tryz.prog w=.ok (IX a b) w:=by
  obtain ⟨x0,x1,x2,x3,x4,x5⟩:=a
  obtain ⟨y0,y1,y2,y3,y4,y5⟩:=b
  have u3:=υ3
  have a3:=Tryz.isAgg3
  have z3:=Tryz.sizeOf3
  have u9:=υ9
  have a9:=Tryz.isAgg9
  have z9:=Tryz.sizeOf9
  have u68:=υ68
  have a68:=Tryz.isAgg68
  have z68:=Tryz.sizeOf68
  have hS:Tryz.prog.underlying 76=some (.struct (Tryz.prog.fieldsOf 76)):=κ
  have hp:Tryz.prog.stoodInHeld 76=false:=κ
  have hS2:Tryz.prog.underlying 68=some (.struct (Tryz.prog.fieldsOf 68)):=κ
  have hp2:Tryz.prog.stoodInHeld 68=false:=κ
  show (Op.equalIn 10000 76 (.agg #[ν x0,.string x1,ν x2,ν x3,ν x4,σ x5]) (.agg #[ν y0,.string y1,ν y2,ν y3,ν y4,σ y5])).run Tryz.prog w=_
  rw [show (10000:Nat)=9999+1 from rfl,run_equalIn_agg w 9999 76 _ _ hS hp]
  simp only [Program.fieldsOf,υ76]
  go_simp
  simp only [Sl,Lb]
  unfold IX
  by_cases h0:x0=y0
  case neg=>simp [h0]
  by_cases h1:x1=y1
  case neg=>simp [h1]
  by_cases h2:x2=y2
  case neg=>simp [h2]
  by_cases h3:x3=y3
  case neg=>simp [h3]
  by_cases h4:x4=y4
  case neg=>simp [h4]
  by_cases h5:x5=y5
  case neg=>simp [h5]
  simp [h0,h1,h2,h3,h4,h5]
theorem Pt (o p:Operand) (a b:RowM) (w:World):(do eqGuard .neq 76 o p (.agg (Cm a).toArray) (.agg (Cm b).toArray);binOp .neq 76 (.agg (Cm a).toArray) (.agg (Cm b).toArray):Sem Value).run Tryz.prog w=.ok (.bool (!IX a b)) w:=by
  rw [Sem.run_bind,run_eqGuard_agg (P:=Tryz.prog) w .neq 76 o p _ _ κ]
  show (binOp .neq 76 _ _).run Tryz.prog w=_
  rw [run_neq_struct,QK]
  rfl
def Er (L M:List RowM):Bool:=decide (L.length=M.length)&&(List.range L.length).all fun i=>IX (L.getD i De) (M.getD i De)
theorem DL {L M:List RowM}:Er L M=true↔L=M:=by
  unfold Er
  rw [Bool.and_eq_true,decide_eq_true_iff,List.all_eq_true]
  constructor
  · rintro ⟨h1,h2⟩
    refine List.ext_getElem h1 fun i hi hj=>?_
    have z:=KM.1 (h2 i (List.mem_range.2 hi))
    rw [List.getD_eq_getElem?_getD,List.getElem?_eq_getElem hi,List.getD_eq_getElem?_getD,List.getElem?_eq_getElem hj] at z
    exact z
  · rintro rfl
    exact ⟨rfl,fun i _=>KM.2 rfl⟩
end
section
theorem SW {L M:List RowM} {n:Nat} (h:∀ i,i<n→IX (L.getD i De) (M.getD i De)=true) (h2:IX (L.getD n De) (M.getD n De)=true):∀ i,i<n+1→IX (L.getD i De) (M.getD i De)=true:=fun i hi=>by
 by_cases e:i=n
 ·subst e;exact h2
 ·exact h i ω
theorem Rs {L M:List RowM} {n:Nat} (hl:L.length=M.length) (hn:L.length≤n) (h:∀ i,i<n→IX (L.getD i De) (M.getD i De)=true):L=M:=by
 refine DL.1 ?_
 unfold Er
 rw [Bool.and_eq_true,decide_eq_true_iff,List.all_eq_true]
 exact ⟨hl,fun i hi=>h i (by have:=List.mem_range.1 hi;omega)⟩
theorem Mp {L M:List RowM} (h:L.length≠M.length):Er L M=false:=by
 cases q:Er L M with
 | false=>rfl
 | true=>exact absurd (congrArg List.length (DL.1 q)) h
theorem Rv {L M:List RowM} {n:Nat} (hn:n<L.length) (h:IX (L.getD n De) (M.getD n De)=false):Er L M=false:=by
 cases q:Er L M with
 | false=>rfl
 | true=>
  have e:=DL.1 q
  subst e
  rw [KM.2 rfl] at h;cases h
theorem LP {F:FsM} {δ:Nat→Int} (hF:FsC F δ) (hz:SmF F):(CD F).length≤4000:=by
 unfold CD MY
 rw [Mv]
 have h1:=MZ hF 1000
 have h2:=IL F
 have h3:=hz.2.1
 omega
theorem Fp (args:Array Value) (w:World):(callFunc 31 args).run Tryz.prog w=.ok (.enter 31 args) w:=by
 have h:=Tryz.func31
 go_simp
theorem DU (args:Array Value) (w:World):(callFunc 30 args).run Tryz.prog w=.ok (.enter 30 args) w:=by
 have h:=Tryz.func30
 go_simp
theorem MA {w:World} {R:List Ch} {xa ya:Option Addr} {xc yc:Nat} {L M:List RowM} (hS0:Sep w ([Ai 0 76 6 xa L.length xc (L.flatMap Cm),Ai 0 76 6 ya M.length yc (M.flatMap Cm)]++R)) (hl:L.length≤4000) (hm:M.length≤4000) :
  CallsR Tryz.prog 30 #[.slice xa L.length xc,.slice ya M.length yc] w (fun v w'=>v=.bool (Er L M)∧Sep w' ([Ai 0 76 6 xa L.length xc (L.flatMap Cm),Ai 0 76 6 ya M.length yc (M.flatMap Cm)]++R)):=by
 have hS:Sep w [Ai 0 76 6 xa L.length xc (L.flatMap Cm),Ai 0 76 6 ya M.length yc (M.flatMap Cm),Ch.many R]:=Sep.tail_many (xs:=[_,_]) hS0;clear hS0
 refine AE Tryz.func30 rfl (N:=26) Tryz.ntmps30 (by show 2≤26;decide) [(0,.slice xa L.length xc),(1,.slice ya M.length yc)] rfl fun _ h1=>sqr fun _ hK3=>mv h1 rfl fun _ h4=>wpList_nil<|hK3 _ _<|sq fun _ hK6=>sqr fun _ hK7=>mv h4 rfl fun _ h8=>sv1 h8 rfl (v:=ν (L.length:Int)) (CR h8 rfl rfl υ74) fun _ h2=>mv h2 rfl fun _ h3=>sv1 h3 rfl (v:=ν (M.length:Int)) (CR h3 rfl rfl υ74) fun _ h5=>bv h5 (z:=.bool (decide ((L.length:Int)≠(M.length:Int)))) rfl (cNe _ _ _ _ rfl) fun _ h6=>?_
 refine h6.sn [10,4,0,1] rfl fun h7=>hK7 _ _ ?_
 rcases bC (decide ((L.length:Int)≠(M.length:Int))) with hc1 | hc1
 ·skip
  have hp1:(L.length:Int)≠(M.length:Int):=(dT hc1)
  refine wcT h7 rfl hc1<|h7.sk [4,0,1] rfl fun h9=>sqr fun _ hK1=>h9.sk [0,1] rfl fun h10=>mv h10 rfl fun _ h11=>wpList_nil<|hK1 _ _<|wp_ret ?_
  try simp only [Exit.then,Exit.inBlock]
  refine Bi (v:=.bool false) (Ce h11 rfl rfl) h11.defs ?_
  refine ⟨by rw [Mp ω],Sep.tail_un (xs:=[_,_]) hS⟩
 ·skip
  have hp2:¬ ((L.length:Int)≠(M.length:Int)):=(dF hc1)
  refine wcF h7 rfl hc1<|h7.sk [4,0,1] rfl fun h12=>wp_skip<|hK6 _ _<|sq fun _ hK2=>sqr fun _ hK4=>mv h12 rfl fun _ h13=>sv1 h13 rfl (v:=ν (L.length:Int)) (CR h13 rfl rfl υ74) fun _ h14=>mv h14 rfl fun _ h15=>h15.sn [13,12,4,0,1] rfl fun h16=>hK4 _ _<|wp_block ?_
  refine DK (fun (n:Nat) a' w'=>Kn 26 [(13,ν (n:Int)),(12,ν (L.length:Int)),(4,.bool false),(0,.slice xa L.length xc),(1,.slice ya M.length yc)] a'∧Sep w' [Ai 0 76 6 xa L.length xc (L.flatMap Cm),Ai 0 76 6 ya M.length yc (M.flatMap Cm),Ch.many R]∧(n≤L.length)∧(∀ i,i<n→IX (L.getD i De) (M.getD i De)=true)) (fun (n:Nat)=>L.length-n) 0 ⟨h16.subs rfl,hS,Nat.zero_le _,fun i h=>ω⟩ ?_
  rintro n44 a1 w2 ⟨h17,s1,hn42,hal43⟩ K1 hK5
  refine sqr fun _ hK8=>bv h17 (z:=.bool (decide ((n44:Int)<(L.length:Int)))) rfl (cLt _ _ _ _ rfl) fun _ h18=>wpList_nil<|hK8 _ _<|sq fun _ hK9=>?_
  rcases bC (decide ((n44:Int)<(L.length:Int))) with hc2 | hc2
  ·skip
   have hp3:(n44:Int)<(L.length:Int):=(dT hc2)
   refine wcT h18 rfl hc2<|h18.sk [13,12,4,0,1] rfl fun h19=>wp_skip<|hK9 _ _<|sq fun _ hK10=>wp_block ?_
   refine sqr fun _ hK11=>mvs 2 h19 rfl fun _ h20=>h20.sn [5,13,12,4,0,1] rfl fun h21=>hK11 _ _<|sq fun _ hK12=>?_
   have s2:=s1.drew
   refine wp_region_held_drew (S:=fun w'=>Sep w' [Ai 0 76 6 xa L.length xc (L.flatMap Cm),Ai 0 76 6 ya M.length yc (M.flatMap Cm),Ch.many R]) κ s2 (fun hq1=>?_)
   refine tv1 hq1 h21 0 rfl rfl (v:=.slice xa L.length xc) (fun w1 _=>(Aq h21 rfl rfl) w1) fun _ h22=>?_
   refine tv1 hq1 h22 1 rfl rfl (v:=ν (n44:Int)) (fun w1 _=>(Aq h22 rfl rfl) w1) fun _ h23=>?_
   obtain ⟨q66,hq2⟩:=AT (s2.get 0 rfl:Own _ _ _ _ _ _ _ _)
   refine tv1 hq1 h23 2 rfl rfl (v:=.pointer (some ⟨q66,n44*6,none⟩)) (fun w1 _=>(Ay h23 rfl rfl rfl (fun w=>ixO υ74 κ (sz:=6) (hq2 ω) (j:=n44) rfl ω ω w)) w1) fun _ h24=>?_
   refine tv1 hq1 h24 3 rfl rfl (v:=.agg #[ν ((L.getD n44 De).dp),.string ((L.getD n44 De).nm),ν ((L.getD n44 De).cl),ν ((L.getD n44 De).fd),ν ((L.getD n44 De).fl),σ ((L.getD n44 De).dt)]) (fun w1 hSw=>(rld h24 rfl rfl (Lj Fh υ76 rfl κ (hSw.get 0 rfl:Own _ _ _ _ _ _ _ _) (hq2 ω) De ω rfl))) fun _ h25=>?_
   refine tv1 hq1 h25 4 rfl rfl (v:=.slice ya M.length yc) (fun w1 _=>(Aq h25 rfl rfl) w1) fun _ h26=>?_
   refine tv1 hq1 h26 5 rfl rfl (v:=ν (n44:Int)) (fun w1 _=>(Aq h26 rfl rfl) w1) fun _ h27=>?_
   obtain ⟨q76,hq3⟩:=AT (s2.get 1 rfl:Own _ _ _ _ _ _ _ _)
   refine tv1 hq1 h27 6 rfl rfl (v:=.pointer (some ⟨q76,n44*6,none⟩)) (fun w1 _=>(Ay h27 rfl rfl rfl (fun w=>ixO υ74 κ (sz:=6) (hq3 ω) (j:=n44) rfl ω ω w)) w1) fun _ h28=>?_
   refine tv1 hq1 h28 7 rfl rfl (v:=.agg #[ν ((M.getD n44 De).dp),.string ((M.getD n44 De).nm),ν ((M.getD n44 De).cl),ν ((M.getD n44 De).fd),ν ((M.getD n44 De).fl),σ ((M.getD n44 De).dt)]) (fun w1 hSw=>(rld h28 rfl rfl (Lj Fh υ76 rfl κ (hSw.get 1 rfl:Own _ _ _ _ _ _ _ _) (hq3 ω) De ω rfl))) fun _ h29=>?_
   refine tv1 hq1 h29 8 rfl rfl (v:=.bool (!(IX (L.getD n44 De) (M.getD n44 De)))) (fun w1 _=>(BF h29 rfl rfl rfl (Pt _ _ (L.getD n44 De) (M.getD n44 De))) w1) fun _ h30=>?_
   refine h30.sk [24,5,13,12,4,0,1] rfl fun h31=>?_
   refine wpAnyH_done κ ?_ _
   refine hK12 _ _ ?_
   rcases bC (IX (L.getD n44 De) (M.getD n44 De)) with hc3 | hc3
   ·skip
    refine wcF h31 rfl (Bq hc3)<|h31.sk [5,13,12,4,0,1] rfl fun h32=>wp_skip<|hK10 _ _<|wp_region_lit<|bv h32 (z:=ν ((n44+1:Nat):Int)) rfl (DG _ _ _ ω ω ω) fun _ h33=>h33.sk [25,5,12,4,0,1] rfl fun h34=>mv h34 rfl fun _ h35=>h35.sk [13,5,12,4,0,1] rfl fun h36=>wpList_nil ?_
    exact hK5 (n44+1) _ _ ⟨h36.subs rfl,s2,ω,SW hal43 hc3⟩ ω
   ·skip
    refine wcT h31 rfl (Bt hc3)<|h31.sk [5,13,12,4,0,1] rfl fun h37=>sqr fun _ hK13=>h37.sk [5,13,12,0,1] rfl fun h38=>mv h38 rfl fun _ h39=>wpList_nil<|hK13 _ _<|wp_ret ?_
    try simp only [Exit.then,Exit.inBlock]
    refine Bi (v:=.bool false) (Ce h39 rfl rfl) h39.defs ?_
    refine ⟨by rw [Rv ω hc3],Sep.tail_un (xs:=[_,_]) s2⟩
  ·skip
   have hp4:¬ ((n44:Int)<(L.length:Int)):=(dF hc2)
   refine wcF h18 rfl hc2<|h18.sk [13,12,4,0,1] rfl fun h40=>wp_exit ?_
   refine hK2 _ _ ?_
   refine sqr fun _ hK14=>h40.sk [13,12,0,1] rfl fun h41=>mv h41 rfl fun _ h42=>wpList_nil<|hK14 _ _<|wp_ret ?_
   try simp only [Exit.then,Exit.inBlock]
   refine Bi (v:=.bool true) (Ce h42 rfl rfl) h42.defs ?_
   refine ⟨by rw [DL.2 (Rs (ω:L.length=M.length) (ω:L.length≤n44) hal43)],Sep.tail_un (xs:=[_,_]) s1⟩
theorem Od {w:World} {cf ob cg og:Nat} {F G:FsM} {A A2:AdM} {R:List Ch} {δ δ2:Nat→Int} (hS0:Sep w ([Ah cf 65 [π (A.ad 0),.map (some ob)],AO F A,AP KO ob A.C (opG F A),Ah cg 65 [π (A2.ad 0),.map (some og)],AO G A2,AP KO og A2.C (opG G A2)]++R)) (hok:FsC F δ) (hz:SmF F) (hok2:FsC G δ2) (hz2:SmF G) :
  CallsR Tryz.prog 17 #[π cf,π cg] w (fun v w'=>v=.bool (Er (CD F) (CD G))∧Sep w' ([Ah cf 65 [π (A.ad 0),.map (some ob)],AO F A,AP KO ob A.C (opG F A),Ah cg 65 [π (A2.ad 0),.map (some og)],AO G A2,AP KO og A2.C (opG G A2)]++R)):=by
 have hS:Sep w [Ah cf 65 [π (A.ad 0),.map (some ob)],AO F A,AP KO ob A.C (opG F A),Ah cg 65 [π (A2.ad 0),.map (some og)],AO G A2,AP KO og A2.C (opG G A2),Ch.many R]:=Sep.tail_many (xs:=[_,_,_,_,_,_]) hS0;clear hS0
 refine AE Tryz.func17 rfl (N:=10) Tryz.ntmps17 (by show 2≤10;decide) [(0,π cf),(1,π cg)] rfl fun _ h1=>sqr fun _ hK3=>mv h1 rfl fun _ h4=>wpList_nil<|hK3 _ _<|sqr fun _ hK6=>mv h4 rfl fun _ h7=>cl h7 rfl Fp (Rt hS hok hz) fun _ v1 w1 r1 h2=>?_
 obtain ⟨xax9,xcx10,rfl,s1⟩:=r1
 refine mv h2 rfl fun _ h3=>cl h3 rfl Fp (Rt (s1.pk [4,5,6,0,1,2,3,7] rfl) hok2 hz2) fun _ v2 w2 r2 h5=>?_
 obtain ⟨yax20,ycx21,rfl,s2⟩:=r2
 refine cl h5 rfl DU (MA (s2.pk [4,0,1,2,3,5,6,7,8] rfl) (LP hok hz) (LP hok2 hz2)) fun _ v3 w3 r3 h6=>?_
 obtain ⟨rfl,s3⟩:=r3
 refine h6.sk [9,8,7,6,5,0,1] rfl fun h8=>mv h8 rfl fun _ h9=>h9.sn [4,0,1] rfl fun h10=>hK6 _ _<|wp_ret ?_
 try simp only [Exit.then,Exit.inBlock]
 refine Bi (v:=.bool (Er (CD F) (CD G))) (Ce h10 rfl rfl) h10.defs ?_
 exact ⟨rfl,Sep.tail_un (xs:=[_,_,_,_,_,_]) (s3.pk [5,6,7,2,3,4,8] rfl)⟩
end
section
def Reach (F:FsM):Prop:=∀ x∈F.E,∃ M,Am F 0 M=(0,x.dn)
theorem Jf {F G:FsM} (hd:∀ i,F.dir i=true→G.dir i=true) (he:∀ i t m,Aj F.E i t=some m→Aj G.E i t=some m):∀ (M:List ByteArray) (n k:Nat),Am F n M=(0,k)→Am G n M=(0,k)
  | [],n,k,h=>h
  | t::M,n,k,h=>by
    unfold Am at h ⊢
    by_cases h1:F.dir n=true
    · rw [if_pos h1] at h
      rw [if_pos (hd n h1)]
      cases hl:Aj F.E n t with
      | none=>rw [hl] at h;cases h
      | some m=>
        rw [hl] at h
        rw [he n t m hl]
        exact Jf hd he M m k h
    · rw [if_neg h1] at h;cases h
theorem FA (F:FsM):∀ (A B:List ByteArray) (n k:Nat),Am F n A=(0,k)→Am F n (A++B)=Am F k B
  | [],B,n,k,h=>by have e:n=k:=(Prod.mk.inj h).2;rw [e];rfl
  | t::A,B,n,k,h=>by
    show Am F n (t::(A++B))=_
    unfold Am at h
    rw [Am]
    by_cases h1:F.dir n=true
    · rw [if_pos h1] at h ⊢
      cases hl:Aj F.E n t with
      | none=>rw [hl] at h;cases h
      | some m=>rw [hl] at h;exact FA F A B m k h
    · rw [if_neg h1] at h;cases h
theorem LT (F:FsM):∀ (A B:List ByteArray) (n k:Nat),Am F n (A++B)=(0,k)→∃ j,Am F n A=(0,j)∧Am F j B=(0,k)
  | [],B,n,k,h=>⟨n,rfl,h⟩
  | t::A,B,n,k,h=>by
    have h:Am F n (t::(A++B))=(0,k):=h
    rw [Am] at h
    rw [Am]
    by_cases h1:F.dir n=true
    · rw [if_pos h1] at h ⊢
      cases hl:Aj F.E n t with
      | none=>rw [hl] at h;cases h
      | some m=>rw [hl] at h;exact LT F A B m k h
    · rw [if_neg h1] at h;cases h
section
variable {F G:FsM} {δ:Nat→Int}
theorem Reach.same (h:Reach F) (hd:∀ i,F.dir i=true→G.dir i=true) (he:G.E=F.E):Reach G:=fun x hx=>by
  rw [he] at hx
  obtain ⟨M,hM⟩:=h x hx
  exact ⟨M,Jf hd (fun i t m q=>by rw [he];exact q) M _ _ hM⟩
theorem Reach.put (h:Reach F) {d m:Nat} {s:ByteArray} (hd:∀ i,F.dir i=true→G.dir i=true) (he:G.E=F.E++[⟨d,s,m⟩]) (hl:Aj F.E d s=none) (hp:∃ M,Am F 0 M=(0,d)):Reach G:=fun x hx=>by
  have key:∀ i t k,Aj F.E i t=some k→Aj G.E i t=some k:=fun i t k q=>by
    rw [he,Dh hl,if_neg (fun e=>by rw [e.1,e.2,hl] at q;cases q)];exact q
  rw [he] at hx
  rcases List.mem_append.1 hx with hx | hx
  · obtain ⟨M,hM⟩:=h x hx
    exact ⟨M,Jf hd key M _ _ hM⟩
  · rw [List.mem_singleton] at hx;subst hx
    obtain ⟨M,hM⟩:=hp
    exact ⟨M,Jf hd key M _ _ hM⟩
theorem Reach.take (h:Reach F) (hF:FsC F δ) {d m:Nat} {s:ByteArray} (hd:∀ i,G.dir i=F.dir i) (he:G.E=BW F.E d s) (hl:Aj F.E d s=some m) (hdead:F.dir m=true→∀ t,Aj F.E m t=none):Reach G:=fun x hx=>by
  rw [he] at hx
  have hx:=(List.mem_filter.1 hx).1
  obtain ⟨M,hM⟩:=h x hx
  exact ⟨M,HU hd (fun k t hk=>by rw [he,Bw,if_neg hk]) hl hdead M 0 _ hM (hF.e x hx).1.2 ⟨x.nm,x.nd,IQ hF.ed hx⟩⟩
theorem Reach.moved (h:Reach F) (hF:FsC F δ) {d0 n d:Nat} {s0 s:ByteArray} {P D:List ByteArray} (hP:Am F 0 P=(0,d0)) (hd0:F.dir d0=true) (hn:Aj F.E d0 s0=some n) (hD:Am F 0 D=(0,d)) (hdd:F.dir d=true) (hl:Aj F.E d s=none) (hins:F.dir n=true→¬ ∃ Q,D=(P++[s0])++Q) :
    Reach (Br (As F d0 s0) d s n):=by
  have hne:Aj (As F d0 s0).E d s=none:=by show Aj (BW F.E d0 s0) d s=none;rw [Bw];split;rfl;exact hl
  have hG:∀ a t k,Aj F.E a t=some k→¬ (a=d0∧t=s0)→Aj (Br (As F d0 s0) d s n).E a t=some k:=fun a t k q hq=>by
    show Aj ((As F d0 s0).E++[_]) a t=_
    rw [Dh hne,if_neg (fun e=>by rw [e.1,e.2,hl] at q;cases q)]
    show Aj (BW F.E d0 s0) a t=_
    rw [Bw,if_neg hq];exact q
  have hGn:Aj (Br (As F d0 s0) d s n).E d s=some n:=by
    show Aj ((As F d0 s0).E++[_]) d s=_
    rw [Dh hne,if_pos ⟨rfl,rfl⟩]
  have hw0:Am F 0 (P++[s0])=(0,n):=Ef hP hd0 hn
  have hdir:∀ i,(Br (As F d0 s0) d s n).dir i=F.dir i:=fun i=>rfl
  have A:∀ (q:Nat) (M:List ByteArray) (k:Nat),M.length=q→Am F 0 M=(0,k)→(¬ ∃ Q,M=(P++[s0])++Q)→Am (Br (As F d0 s0) d s n) 0 M=(0,k):=by
    intro q
    induction q with
    | zero=>intro M k hq hM _;have e:=List.eq_nil_of_length_eq_zero hq;subst e;exact hM
    | succ q ih=>
      intro M k hq hM hno
      rcases CC M with e | ⟨B,t,e⟩
      · subst e;cases hq
      subst e
      obtain ⟨a,ha,hda,hla⟩:=Fi hM
      refine Ef (ih B a (by simpa using hq) ha (fun ⟨Q,e⟩=>hno ⟨Q++[t],by rw [e];simp⟩)) hda (hG a t k hla fun e=>hno ⟨[],?_⟩)
      rw [e.1] at ha
      rw [hF.uniq _ B P d0 rfl ha hP hd0,e.2];simp
  have C:∀ (q:Nat) (Q:List ByteArray) (k:Nat),Q.length=q→Am F n Q=(0,k)→Am (Br (As F d0 s0) d s n) n Q=(0,k):=by
    intro q
    induction q with
    | zero=>intro Q k hq hQ;have e:=List.eq_nil_of_length_eq_zero hq;subst e;exact hQ
    | succ q ih=>
      intro Q k hq hQ
      rcases CC Q with e | ⟨B,t,e⟩
      · subst e;cases hq
      subst e
      obtain ⟨a,ha,hla⟩:=LT F B [t] n k hQ
      have hda:F.dir a=true:=by
        rw [Am] at hla
        by_cases h1:F.dir a=true
        · exact h1
        · rw [if_neg h1] at hla;cases hla
      have hlk:Aj F.E a t=some k:=by
        rw [Am,if_pos hda] at hla
        cases hx:Aj F.E a t with
        | none=>rw [hx] at hla;cases hla
        | some m=>rw [hx] at hla;have e:m=k:=(Prod.mk.inj hla).2;rw [e]
      have hG2:=hG a t k hlk (fun e=>by
        rw [e.1] at ha
        have z:=FA F (P++[s0]) B 0 n hw0
        rw [ha] at z
        have e2:=congrArg List.length (hF.uniq _ _ _ d0 rfl z hP hd0)
        simp at e2)
      rw [FA _ B [t] n a (ih B a (by simpa using hq) ha),Am,if_pos (by rw [hdir];exact hda),hG2]
      rfl
  have hDn:¬ ∃ Q,D=(P++[s0])++Q:=fun ⟨Q,e⟩=>by
    cases hnd:F.dir n with
    | true=>exact hins hnd ⟨Q,e⟩
    | false=>
      rw [e,FA F _ Q 0 n hw0] at hD
      cases Q with
      | nil=>have e2:n=d:=(Prod.mk.inj hD).2;rw [e2,hdd] at hnd;cases hnd
      | cons t Q=>rw [Am,if_neg (by rw [hnd];decide)] at hD;cases hD
  have hGD:=A _ D d rfl hD hDn
  intro x hx
  rcases List.mem_append.1 hx with hx | hx
  · have hx:=(List.mem_filter.1 hx).1
    obtain ⟨M,hM⟩:=h x hx
    by_cases hq:∃ Q,M=(P++[s0])++Q
    · obtain ⟨Q,e⟩:=hq
      rw [e,FA F _ Q 0 n hw0] at hM
      refine ⟨(D++[s])++Q,?_⟩
      rw [FA _ _ Q 0 n (Ef hGD hdd hGn)]
      exact C _ Q _ rfl hM
    · exact ⟨M,A _ M _ rfl hM hq⟩
  · rw [List.mem_singleton] at hx;subst hx
    exact ⟨D,hGD⟩
end
section
variable {F:FsM} {X Y:List UInt8}
theorem Hq (hp:(Aa F X).1=0):∃ M,Am F 0 M=(0,(Aa F X).2.1):=by
  obtain ⟨M,x,hpo,h1,h2,e⟩:=EF hp
  rw [e];exact ⟨M,Prod.ext h1 rfl⟩
theorem LG (h:FsOk F) (b:Bool) (i:Nat) (hi:F.dir i=true):(AH F b).dir i=true:=by
  rw [Di,if_neg ?_];exact hi
  intro e
  have:F.dir F.N.length=false:=by unfold FsM.dir FsM.at;rw [List.getD_eq_getElem?_getD,List.getElem?_eq_none (Nat.le_refl _)];rfl
  rw [e,this] at hi;cases hi
theorem Reach.open_ (hr:Reach F) (h:FsOk F) (c fl:Int):Reach (AS F c X fl).1:=by
  unfold AS;split
  · split
    · split
      · exact hr
      · split
        · exact hr
        · split
          · exact hr
          · exact hr.same (fun i q=>q) rfl
    · split
      · rename_i hf hc
        split
        · exact hr
        · exact hr.put (fun i q=>LG h false i q) rfl (CT hf hc.2.1) (Hq hc.2.1)
      · exact hr
  · exact hr
theorem Reach.data (hr:Reach F) (h:FsOk F) {n:Nat} (hn:n<F.N.length) (d:List UInt8):Reach (BS F n d):=hr.same (fun i q=>by rw [Gj hn];exact q) rfl
theorem Reach.unlink_ (hr:Reach F) (h:FsOk F):Reach (Cb F X).1:=by
  unfold Cb
  split
  · rename_i hf
    split
    · exact hr
    · rename_i hd
      have hd:F.dir (Ab F X).2=false:=by cases q:F.dir (Ab F X).2 with | false=>rfl | true=>exact absurd q hd
      have hn:¬ Ag X=some []:=fun e=>by have z:=h.toFsC.root_dir e;rw [hd] at z;cases z
      obtain ⟨_,x2⟩:=Bg hf hn
      exact hr.take h.toFsC (fun i=>Dz (F:=As F _ _) (h.toFsC.look_lt x2).1 (-1) i) rfl x2 (fun q=>by rw [hd] at q;cases q)
  · exact hr
theorem Reach.rmdir_ (hr:Reach F) (h:FsOk F):Reach (Bj F X).1:=by
  unfold Bj
  split
  · exact hr
  · rename_i hX
    split
    · rename_i hf
      split
      · split
        · exact hr
        · rename_i hc
          obtain ⟨_,x2⟩:=Bg hf (fun e=>hX (Cq.1 e))
          exact hr.take h.toFsC (fun i=>rfl) rfl x2 (fun _ t=>Lx hc t)
      · exact hr
    · exact hr
theorem Reach.links_ (hr:Reach F) (h:FsOk F):Reach (AN F X Y).1:=by
  unfold AN
  split
  · split
    · rename_i hf
      split
      · exact hr
      · split
        · exact hr
        · split
          · rename_i hp
            split
            · exact hr
            · rename_i hl
              split
              · exact hr
              · have hl:Aj F.E (Aa F Y).2.1 (Aa F Y).2.2=none:=by cases q:Aj F.E (Aa F Y).2.1 (Aa F Y).2.2 with | none=>rfl | some m=>rw [q] at hl;exact absurd rfl hl
                exact hr.put (fun i q=>by rw [Dz (F:=Br F _ _ _) (h.toFsC.find_lt X)];exact q) rfl hl (Hq hp)
          · exact hr
    · exact hr
  · exact hr
theorem Reach.rename_ (hr:Reach F) (h:FsOk F):Reach (An F X Y).1:=by
  unfold An
  split
  · rename_i hc
    split
    · rename_i hf
      split
      · exact hr
      · rename_i hi
        split
        · rename_i hp
          have hn:¬ Ag X=some []:=fun e=>hc.2.1 (Cq.1 e)
          obtain ⟨x1,x2⟩:=Bg hf hn
          obtain ⟨P,s0,hpX,w1,v1,eX⟩:=EF x1
          obtain ⟨D,s,hpY,w2,v2,eY⟩:=EF hp
          have W1:Am F 0 P=(0,(Aa F X).2.1):=by rw [eX];exact Prod.ext w1 rfl
          have W2:Am F 0 D=(0,(Aa F Y).2.1):=by rw [eY];exact Prod.ext w2 rfl
          have V1:F.dir (Aa F X).2.1=true:=by rw [eX];exact v1
          have V2:F.dir (Aa F Y).2.1=true:=by rw [eY];exact v2
          have S1:(Aa F X).2.2=s0:=by rw [eX]
          have hins:∀ k,k≠some (Ab F X).2∨True→Aj F.E (Aa F Y).2.1 (Aa F Y).2.2≠some (Ab F X).2→F.dir (Ab F X).2=true→¬ ∃ Q,D=(P++[(Aa F X).2.2])++Q:=fun _ _ hne hd ⟨Q,e⟩=>by
            refine hi ⟨⟨hd,fun e2=>hne ?_⟩,?_⟩
            · rw [← e2];exact x2
            · rw [hpX,hpY,e,S1,List.append_assoc];exact QR
          unfold Be
          split
          · rename_i hl
            exact hr.moved h.toFsC W1 V1 x2 W2 V2 hl (hins none (.inr trivial) (by rw [hl];simp))
          · rename_i m hl
            split
            · exact hr
            · rename_i q0
              split
              · exact hr
              · rename_i q1
                split
                · exact hr
                · rename_i q2
                  split
                  · exact hr
                  · rename_i q3
                    have hro:RenOk F (Ab F X).2 m:=⟨q0,q1,q2,q3⟩
                    obtain ⟨e1,e2⟩:=FV h.toFsC x1 x2 hl hro
                    have hm:=(h.toFsC.look_lt hl).1
                    have hr2:Reach (Af F (Aa F Y).2.1 (Aa F Y).2.2 m):=hr.take h.toFsC (Dr hm) (DI ..) hl hro.dead
                    have fre:∀ M k,Am F 0 M=(0,k)→F.dir k=true→(∃ t j,Aj F.E k t=some j)→Am (Af F (Aa F Y).2.1 (Aa F Y).2.2 m) 0 M=(0,k):=fun M k hw hk he=>
                      HU (Dr hm) (fun k t hk=>by rw [DI,Bw,if_neg hk]) hl hro.dead M 0 k hw hk he
                    have hx2:Aj (Af F (Aa F Y).2.1 (Aa F Y).2.2 m).E (Aa F X).2.1 (Aa F X).2.2=some (Ab F X).2:=by rw [DI,Bw,if_neg e2];exact x2
                    have z:=hr2.moved (h.freed hl).toFsC (fre P _ W1 V1 ⟨_,_,x2⟩) (by rw [Dr hm];exact V1) hx2 (fre D _ W2 V2 ⟨_,_,hl⟩) (by rw [Dr hm];exact V2) (by rw [DI,Bw,if_pos ⟨rfl,rfl⟩]) (fun q=>hins none (.inr trivial) (by rw [hl];exact fun e=>q0 (Option.some.inj e)) (by rw [Dr hm] at q;exact q))
                    show Reach (movedF _ X _ _ _)
                    unfold movedF
                    rw [e1];exact z
        · exact hr
    · exact hr
  · exact hr
theorem Reach.do_ (hr:Reach F) (h:FsOk F) (c:Int) (x:CallM):Reach (doF F c x).1:=by
  unfold doF
  split
  · exact hr
  · refine Gq (Pr:=fun p=>Reach p.1) (hr.open_ h _ _) ?_ ?_ ?_ ?_ ?_ ?_ (hr.rmdir_ h) (hr.links_ h) (hr.unlink_ h) (hr.rename_ h) ?_ ?_ hr
    · unfold BK;split
      · exact hr
      · exact hr.same (fun i q=>q) rfl
    · unfold BV;repeat' split
      all_goals exact hr
    · unfold Bd;split
      · exact hr
      · rename_i m hm
        repeat' split
        all_goals first | exact hr | exact hr.data h (h.toFsC.look_fd hm).1 _
    · unfold BD;split
      · exact hr
      · rename_i m hm
        repeat' split
        all_goals first | exact hr | exact hr.data h (h.toFsC.look_fd hm).1 _
    · unfold Cw;split<;>exact hr
    · unfold CB;split
      · exact hr
      · rename_i hf
        split
        · rename_i hp
          exact hr.put (fun i q=>LG h true i q) rfl (CT hf hp) (Hq hp)
        · exact hr
    · unfold Cn;split<;>(try split)<;>exact hr
    · unfold Cf;split<;>(try split)<;>exact hr
theorem Pu:Reach fs0:=fun x hx=>by cases hx
theorem Reach.drop_ (hr:Reach F) (c:Int):Reach (EB F c):=hr.same (fun i q=>q) rfl
end
end
section
def Jh (p q:FsM×RepM):Prop:=p.2=q.2∧∃ S,Iso S p.1 q.1
section
variable {S:Nat→Nat→Prop} {F G:FsM}
theorem Iso.get (h:Iso S F G) {i j:Nat} (hr:S i j) (s:ByteArray):(Aj F.E i s=none∧Aj G.E j s=none)∨∃ m m',Aj F.E i s=some m∧Aj G.E j s=some m'∧S m m':=by
  obtain ⟨h1,h2⟩:=h.e hr s
  cases hs:Aj F.E i s with
  | none=>exact .inl ⟨rfl,h2 hs⟩
  | some m=>obtain ⟨m',hm,hr'⟩:=h1 m hs;exact .inr ⟨m,m',rfl,hm,hr'⟩
theorem Iso.geto (h:Iso S F G) (c fd:Int):(Az F.O c fd=none∧Az G.O c fd=none)∨∃ m m',Az F.O c fd=some m∧Az G.O c fd=some m'∧S m m':=by
  obtain ⟨h1,h2⟩:=h.o c fd
  cases hs:Az F.O c fd with
  | none=>exact .inl ⟨rfl,h2 hs⟩
  | some m=>obtain ⟨m',hm,hr'⟩:=h1 m hs;exact .inr ⟨m,m',rfl,hm,hr'⟩
theorem Iso.eq_iff (h:Iso S F G) {i i2 j j2:Nat} (a:S i j) (b:S i2 j2):i=i2↔j=j2:=⟨fun e=>h.l (e ▸ a) b,fun e=>h.r (e ▸ a) b⟩
theorem Iso.walk (h:Iso S F G):∀ (M:List ByteArray) {i j:Nat},S i j→(Am F i M).1=(Am G j M).1∧((Am F i M).1=0→S (Am F i M).2 (Am G j M).2)
  | [],i,j,hr=>⟨rfl,fun _=>hr⟩
  | s::M,i,j,hr=>by
    unfold Am
    rw [← h.dir hr]
    split
    · rcases h.get hr s with ⟨e1,e2⟩ | ⟨m,m',e1,e2,hr'⟩
      · rw [e1,e2];exact ⟨rfl,fun q=>by cases q⟩
      · rw [e1,e2];exact h.walk M hr'
    · exact ⟨rfl,fun q=>by cases q⟩
theorem Iso.find (h:Iso S F G) (X:List UInt8):(Ab F X).1=(Ab G X).1∧((Ab F X).1=0→S (Ab F X).2 (Ab G X).2):=by
  unfold Ab
  split
  · exact ⟨rfl,fun q=>by cases q⟩
  · exact h.walk _ h.root
theorem Iso.place (h:Iso S F G) (X:List UInt8):(Aa F X).1=(Aa G X).1∧(Aa F X).2.2=(Aa G X).2.2∧((Aa F X).1=0→S (Aa F X).2.1 (Aa G X).2.1):=by
  unfold Aa
  split
  · exact ⟨rfl,rfl,fun q=>by cases q⟩
  · rename_i L _
    split
    · exact ⟨rfl,rfl,fun q=>by cases q⟩
    · unfold EU
      obtain ⟨w1,w2⟩:=h.walk L.dropLast h.root
      rw [← w1]
      by_cases q:(Am F 0 L.dropLast).1=0
      · rw [if_pos q,if_pos q,← h.dir (w2 q)]
        split
        · exact ⟨rfl,rfl,fun _=>w2 q⟩
        · exact ⟨rfl,rfl,fun q=>by cases q⟩
      · rw [if_neg q,if_neg q]
        exact ⟨rfl,rfl,fun z=>absurd z q⟩
theorem Iso.free (h:Iso S F G) (c:Int):Dt F c=Dt G c:=by
  unfold Dt
  congr 1
  funext fd
  rcases h.geto c fd with ⟨e1,e2⟩ | ⟨m,m',e1,e2,_⟩<;>rw [e1,e2]<;>rfl
theorem Iso.cnt (h:Iso S F G) {δ δ2:Nat→Int} (hF:FsC F δ) (hG:FsC G δ2) {i j:Nat} (hr:S i j):BG F.E i=BG G.E j:=by
  have z:=congrArg List.length (h.names hF hG hr)
  rw [Ee,Ee] at z
  rw [Hv,Hv,z]
theorem Iso.put (h:Iso S F G) {d d' m m':Nat} {s:ByteArray} (hd:S d d') (hm:S m m') (hl:Aj F.E d s=none):Iso S (Br F d s m) (Br G d' s m') where
  root:=h.root
  l:=h.l
  r:=h.r
  lt:=h.lt
  nd:=h.nd
  o:=h.o
  e:=fun {i j} hr t=>by
    have hl2:=(h.e hd s).2 hl
    show (∀ m_1,Aj (F.E++[_]) i t=_→_)∧(Aj (F.E++[_]) i t=none→Aj (G.E++[_]) j t=none)
    have e1:=Dh (m:=m) hl i t
    have e2:=Dh (m:=m') hl2 j t
    have e3:(Br G d' s m').E=G.E++[⟨d',s,m'⟩]:=rfl
    rw [e3,e1,e2]
    by_cases c:i=d∧t=s
    · have c2:j=d'∧t=s:=⟨(h.eq_iff hr hd).1 c.1,c.2⟩
      rw [if_pos c,if_pos c2]
      exact ⟨fun k q=>⟨m',rfl,(Option.some.inj q) ▸ hm⟩,fun q=>by cases q⟩
    · have c2:¬ (j=d'∧t=s):=fun q=>c ⟨(h.eq_iff hr hd).2 q.1,q.2⟩
      rw [if_neg c,if_neg c2]
      exact h.e hr t
theorem Iso.take (h:Iso S F G) {d d':Nat} (s:ByteArray) (hd:S d d'):Iso S (As F d s) (As G d' s) where
  root:=h.root
  l:=h.l
  r:=h.r
  lt:=h.lt
  nd:=h.nd
  o:=h.o
  e:=fun {i j} hr t=>by
    show (∀ m_1,Aj (BW F.E d s) i t=_→∃ m',Aj (BW G.E d' s) j t=_∧_)∧(Aj (BW F.E d s) i t=none→Aj (BW G.E d' s) j t=none)
    rw [Bw,Bw]
    by_cases c:i=d∧t=s
    · have c2:j=d'∧t=s:=⟨(h.eq_iff hr hd).1 c.1,c.2⟩
      rw [if_pos c,if_pos c2]
      exact ⟨fun k q=>(by cases q),fun _=>rfl⟩
    · have c2:¬ (j=d'∧t=s):=fun q=>c ⟨(h.eq_iff hr hd).2 q.1,q.2⟩
      rw [if_neg c,if_neg c2]
      exact h.e hr t
theorem Iso.set (h:Iso S F G) {n n':Nat} (hn:S n n') (x:NodeM):Iso S { F with N:=F.N.set n x } { G with N:=G.N.set n' x } where
  root:=h.root
  l:=h.l
  r:=h.r
  lt:=fun hr=>⟨by show _<(F.N.set n x).length;rw [List.length_set];exact (h.lt hr).1,by show _<(G.N.set n' x).length;rw [List.length_set];exact (h.lt hr).2⟩
  e:=h.e
  o:=h.o
  nd:=fun {i j} hr=>by
    have e1:=FsM.at_set (F:=F) (h.lt hn).1 x F.E F.O i
    have e2:=FsM.at_set (F:=G) (h.lt hn).2 x G.E G.O j
    refine e1.trans (Eq.trans ?_ e2.symm)
    by_cases c:i=n
    · rw [if_pos c,if_pos ((h.eq_iff hr hn).1 c)]
    · rw [if_neg c,if_neg (fun q=>c ((h.eq_iff hr hn).2 q))]
      exact h.nd hr
theorem Iso.link (h:Iso S F G) {n n':Nat} (hn:S n n') (i:Int):Iso S (By F n i) (By G n' i):=by
  have z:=h.set hn { F.at n with links:=(F.at n).links+i }
  have e:By G n' i={ G with N:=G.N.set n' { F.at n with links:=(F.at n).links+i } }:=by unfold By;rw [h.nd hn]
  rw [e];exact z
theorem Iso.data (h:Iso S F G) {n n':Nat} (hn:S n n') (d:List UInt8):Iso S (BS F n d) (BS G n' d):=by
  have z:=h.set hn { F.at n with data:=d }
  have e:BS G n' d={ G with N:=G.N.set n' { F.at n with data:=d } }:=by unfold BS;rw [h.nd hn]
  rw [e];exact z
theorem Iso.fd (h:Iso S F G) {c fd:Int} {m m':Nat} (hm:S m m') (hl:Az F.O c fd=none):Iso S (fdF F c fd m) (fdF G c fd m') where
  root:=h.root
  l:=h.l
  r:=h.r
  lt:=h.lt
  nd:=h.nd
  e:=h.e
  o:=fun c' fd'=>by
    have hl2:=(h.o c fd).2 hl
    show (∀ m_1,Az (F.O++[_]) c' fd'=_→∃ k,Az (G.O++[_]) c' fd'=_∧_)∧(Az (F.O++[_]) c' fd'=none→Az (G.O++[_]) c' fd'=none)
    rw [Gs hl,Gs hl2]
    by_cases q:c'=c∧fd'=fd
    · rw [if_pos q,if_pos q]
      exact ⟨fun k z=>⟨m',rfl,(Option.some.inj z) ▸ hm⟩,fun z=>by cases z⟩
    · rw [if_neg q,if_neg q];exact h.o c' fd'
theorem Iso.closed (h:Iso S F G) (c fd:Int):Iso S { F with O:=Df F.O c fd } { G with O:=Df G.O c fd } where
  root:=h.root
  l:=h.l
  r:=h.r
  lt:=h.lt
  nd:=h.nd
  e:=h.e
  o:=fun c' fd'=>by
    show (∀ m_1,Az (Df F.O c fd) c' fd'=_→∃ k,Az (Df G.O c fd) c' fd'=_∧_)∧(Az (Df F.O c fd) c' fd'=none→Az (Df G.O c fd) c' fd'=none)
    rw [Iv,Iv]
    split
    · exact ⟨fun k z=>(by cases z),fun _=>rfl⟩
    · exact h.o c' fd'
def Uc (S:Nat→Nat→Prop) (F G:FsM) (i j:Nat):Prop:=S i j∨(i=F.N.length∧j=G.N.length)
theorem Iso.node (h:Iso S F G) {δ δ2:Nat→Int} (hF:FsC F δ) (hG:FsC G δ2) (b:Bool):Iso (Uc S F G) (AH F b) (AH G b) where
  root:=.inl h.root
  l:=fun {i j j'} a c=>by
    rcases a with a | a<;>rcases c with c | c
    · exact h.l a c
    · have:=(h.lt a).1;omega
    · have:=(h.lt c).1;omega
    · omega
  r:=fun {i i' j} a c=>by
    rcases a with a | a<;>rcases c with c | c
    · exact h.r a c
    · have:=(h.lt a).2;omega
    · have:=(h.lt c).2;omega
    · omega
  lt:=fun {i j} a=>by
    rw [CN,CN]
    rcases a with a | a
    · have:=h.lt a;omega
    · omega
  nd:=fun {i j} a=>by
    rw [Fc,Fc]
    rcases a with a | a
    · have:=h.lt a
      rw [if_neg ω,if_neg ω];exact h.nd a
    · rw [if_pos a.1,if_pos a.2]
  o:=fun c fd=>by
    obtain ⟨h1,h2⟩:=h.o c fd
    exact ⟨fun m hm=>by obtain ⟨m',q,r⟩:=h1 m hm;exact ⟨m',q,.inl r⟩,h2⟩
  e:=fun {i j} a s=>by
    rcases a with a | a
    · obtain ⟨h1,h2⟩:=h.e a s
      exact ⟨fun m hm=>by obtain ⟨m',q,r⟩:=h1 m hm;exact ⟨m',q,.inl r⟩,h2⟩
    · have key:∀ {H:FsM} {ε:Nat→Int},FsC H ε→Aj H.E H.N.length s=none:=fun {H ε} hH=>by
        cases hl:Aj H.E H.N.length s with
        | none=>rfl
        | some m=>
          obtain ⟨x,hx,e,_⟩:=BZ hl
          have:=(hH.e x hx).1.1;omega
      rw [a.1,a.2]
      exact ⟨fun m hm=>(by rw [show (AH F b).E=F.E from rfl,key hF] at hm;cases hm),fun _=>key hG⟩
end
theorem PB {Pr:FsM×RepM→FsM×RepM→Prop} {F G:FsM} {c:Int} {x:CallM} (h1:Pr (AS F c x.p1 x.fl) (AS G c x.p1 x.fl)) (h2:Pr (BK F c x.fd) (BK G c x.fd)) (h3:Pr (BV F c x.fd x.off x.n) (BV G c x.fd x.off x.n)) (h4:Pr (Bd F c x.fd x.off x.data) (Bd G c x.fd x.off x.data)) (h5:Pr (BD F c x.fd x.n) (BD G c x.fd x.n)) (h6:Pr (Cw F c x.fd) (Cw G c x.fd)) (h7:Pr (CB F x.p1) (CB G x.p1)) (h8:Pr (Bj F x.p1) (Bj G x.p1)) (h9:Pr (AN F x.p1 x.p2) (AN G x.p1 x.p2)) (h10:Pr (Cb F x.p1) (Cb G x.p1)) (h11:Pr (An F x.p1 x.p2) (An G x.p1 x.p2)) (h12:Pr (Cn F x.p1) (Cn G x.p1)) (h13:Pr (Cf F x.p1) (Cf G x.p1)) (h0:Pr (F,Av 15) (G,Av 15)):Pr (EC F c x) (EC G c x):=by
  unfold EC
  by_cases k1:x.kind=1
  · rw [if_pos k1,if_pos k1];exact h1
  rw [if_neg k1,if_neg k1]
  by_cases k2:x.kind=2
  · rw [if_pos k2,if_pos k2];exact h2
  rw [if_neg k2,if_neg k2]
  by_cases k3:x.kind=3
  · rw [if_pos k3,if_pos k3];exact h3
  rw [if_neg k3,if_neg k3]
  by_cases k4:x.kind=4
  · rw [if_pos k4,if_pos k4];exact h4
  rw [if_neg k4,if_neg k4]
  by_cases k5:x.kind=5
  · rw [if_pos k5,if_pos k5];exact h5
  rw [if_neg k5,if_neg k5]
  by_cases k6:x.kind=6
  · rw [if_pos k6,if_pos k6];exact h6
  rw [if_neg k6,if_neg k6]
  by_cases k7:x.kind=7
  · rw [if_pos k7,if_pos k7];exact h7
  rw [if_neg k7,if_neg k7]
  by_cases k8:x.kind=8
  · rw [if_pos k8,if_pos k8];exact h8
  rw [if_neg k8,if_neg k8]
  by_cases k9:x.kind=9
  · rw [if_pos k9,if_pos k9];exact h9
  rw [if_neg k9,if_neg k9]
  by_cases k10:x.kind=10
  · rw [if_pos k10,if_pos k10];exact h10
  rw [if_neg k10,if_neg k10]
  by_cases k11:x.kind=11
  · rw [if_pos k11,if_pos k11];exact h11
  rw [if_neg k11,if_neg k11]
  by_cases k12:x.kind=12
  · rw [if_pos k12,if_pos k12];exact h12
  rw [if_neg k12,if_neg k12]
  by_cases k13:x.kind=13
  · rw [if_pos k13,if_pos k13];exact h13
  rw [if_neg k13,if_neg k13]
  exact h0
theorem Dg (e:Int) {S:Nat→Nat→Prop} {F G:FsM} (h:Iso S F G):Jh (F,Av e) (G,Av e):=⟨rfl,S,h⟩
theorem FH {S:Nat→Nat→Prop} {F G:FsM} (h:Iso S F G) {r s:RepM} (e:r=s):Jh (F,r) (G,s):=⟨e,S,h⟩
section
variable {S:Nat→Nat→Prop} {F G:FsM} {δ δ2:Nat→Int} {X Y:List UInt8}
theorem Iso.open_ (h:Iso S F G) (hF:FsC F δ) (hG:FsC G δ2) (c fl:Int):Jh (AS F c X fl) (AS G c X fl):=by
  obtain ⟨f1,f2⟩:=h.find X
  obtain ⟨p1,p2,p3⟩:=h.place X
  unfold AS
  rw [← f1,← h.free c,← p1,← p2]
  split
  · split
    · rename_i hf
      rw [← h.dir (f2 hf)]
      split
      · exact Dg _ h
      · split
        · exact Dg _ h
        · cases hq:Dt F c with
          | none=>exact Dg _ h
          | some fd=>exact FH (h.fd (f2 hf) (Dq hq).1) rfl
    · rename_i hf
      split
      · rename_i hc
        cases hq:Dt F c with
        | none=>exact Dg _ h
        | some fd=>
          refine FH (((h.node hF hG false).put (d:=(Aa F X).2.1) (.inl (p3 hc.2.1)) (.inr ⟨rfl,rfl⟩) ?_).fd (.inr ⟨rfl,rfl⟩) (Dq hq).1) rfl
          exact CT hf hc.2.1
      · exact Dg _ h
  · exact Dg _ h
theorem Iso.rename_ (h:Iso S F G) (hF:FsC F δ) (hG:FsC G δ2):Jh (An F X Y) (An G X Y):=by
  obtain ⟨f1,f2⟩:=h.find X
  obtain ⟨p1,p2,p3⟩:=h.place Y
  obtain ⟨x1,x2,x3⟩:=h.place X
  unfold An
  rw [← f1,← p1]
  split
  · rename_i hc
    have hn:¬ Ag X=some []:=fun e=>hc.2.1 (Cq.1 e)
    split
    · rename_i hf
      rw [← h.dir (f2 hf)]
      split
      · exact Dg _ h
      · split
        · rename_i hp
          obtain ⟨y1,y2⟩:=Bg hf hn
          unfold Be
          rw [← p2]
          have hn2:=f2 hf
          rcases h.get (p3 hp) (Aa F Y).2.2 with ⟨e1,e2⟩ | ⟨m,m',e1,e2,hm⟩
          · rw [e1,e2]
            show Jh (movedF F X _ _ _,_) (movedF G X _ _ _,_)
            unfold movedF
            rw [← x2]
            refine FH ((h.take _ (x3 y1)).put (p3 hp) hn2 ?_) rfl
            show Aj (BW F.E _ _) _ _=none
            rw [Bw];split;rfl;exact e1
          · rw [e1,e2]
            show Jh (if m=_ then _ else _) (if m'=_ then _ else _)
            have hmn:=h.eq_iff hm hn2
            by_cases q0:m=(Ab F X).2
            · rw [if_pos q0,if_pos (hmn.1 q0)];exact Dg _ h
            rw [if_neg q0,if_neg (fun z=>q0 (hmn.2 z)),← h.dir hn2,← h.dir hm,← h.cnt hF hG hm]
            by_cases q1:F.dir (Ab F X).2=true∧F.dir m=false
            · rw [if_pos q1,if_pos q1];exact Dg _ h
            rw [if_neg q1,if_neg q1]
            by_cases q2:F.dir (Ab F X).2=true∧0<BG F.E m
            · rw [if_pos q2,if_pos q2];exact Dg _ h
            rw [if_neg q2,if_neg q2]
            by_cases q3:F.dir (Ab F X).2=false∧F.dir m=true
            · rw [if_pos q3,if_pos q3];exact Dg _ h
            rw [if_neg q3,if_neg q3]
            have hfr:Iso S (Af F (Aa F Y).2.1 (Aa F Y).2.2 m) (Af G (Aa G Y).2.1 (Aa F Y).2.2 m'):=by
              unfold Af
              rw [← h.dir hm]
              split
              · exact h.take _ (p3 hp)
              · exact (h.take _ (p3 hp)).link hm (-1)
            obtain ⟨z1,z2,z3⟩:=hfr.place X
            have hro:RenOk F (Ab F X).2 m:=⟨q0,q1,q2,q3⟩
            obtain ⟨e3,e4⟩:=FV hF y1 y2 e1 hro
            have y3:(Aa (Af F (Aa F Y).2.1 (Aa F Y).2.2 m) X).1=0:=by rw [e3];exact y1
            show Jh (movedF _ X _ _ _,_) (movedF _ X _ _ _,_)
            unfold movedF
            rw [← z2]
            refine FH ((hfr.take _ (z3 y3)).put (p3 hp) hn2 ?_) rfl
            show Aj (BW (Af F _ _ m).E _ _) _ _=none
            rw [Bw,DI]
            split
            · rfl
            · rw [Bw,if_pos ⟨rfl,rfl⟩]
        · exact Dg _ h
    · exact Dg _ h
  · exact Dg _ h
theorem Iso.links_ (h:Iso S F G):Jh (AN F X Y) (AN G X Y):=by
  obtain ⟨f1,f2⟩:=h.find X
  obtain ⟨p1,p2,p3⟩:=h.place Y
  unfold AN
  rw [← f1,← p1,← p2]
  split
  · split
    · rename_i hf
      rw [← h.dir (f2 hf),← h.nd (f2 hf)]
      split
      · exact Dg _ h
      · split
        · exact Dg _ h
        · split
          · rename_i hp
            rcases h.get (p3 hp) (Aa F Y).2.2 with ⟨e1,e2⟩ | ⟨m,m',e1,e2,hm⟩
            · rw [e1,e2]
              have z:¬ (none:Option Nat).isSome=true:=by decide
              rw [if_neg z,if_neg z]
              split
              · exact Dg _ h
              · exact FH ((h.put (p3 hp) (f2 hf) e1).link (f2 hf) 1) rfl
            · rw [e1,e2]
              rw [if_pos (show (some m).isSome=true from rfl),if_pos (show (some m').isSome=true from rfl)];exact Dg _ h
          · exact Dg _ h
    · exact Dg _ h
  · exact Dg _ h
theorem Iso.do_ (h:Iso S F G) (hF:FsC F δ) (hG:FsC G δ2) (c:Int) (x:CallM):Jh (doF F c x) (doF G c x):=by
  unfold doF
  split
  · exact Dg _ h
  · obtain ⟨f1,f2⟩:=h.find x.p1
    obtain ⟨p1,p2,p3⟩:=h.place x.p1
    refine PB (Pr:=Jh) ?_ ?_ ?_ ?_ ?_ ?_ ?_ ?_ ?_ ?_ ?_ ?_ ?_ ?_
    · exact h.open_ hF hG _ _
    · unfold BK
      rcases h.geto c x.fd with ⟨e1,e2⟩ | ⟨m,m',e1,e2,hm⟩<;>rw [e1,e2]
      · exact Dg _ h
      · exact FH (h.closed _ _) rfl
    · unfold BV
      rcases h.geto c x.fd with ⟨e1,e2⟩ | ⟨m,m',e1,e2,hm⟩<;>rw [e1,e2]
      · exact Dg _ h
      · show Jh (if _ then _ else _) (if _ then _ else _)
        rw [h.nd hm]
        split
        · exact Dg _ h
        · exact FH h rfl
    · unfold Bd
      rcases h.geto c x.fd with ⟨e1,e2⟩ | ⟨m,m',e1,e2,hm⟩<;>rw [e1,e2]
      · exact Dg _ h
      · show Jh (if _ then _ else _) (if _ then _ else _)
        split
        · exact Dg _ h
        · split
          · exact Dg _ h
          · split
            · exact Dg _ h
            · rw [h.nd hm];exact FH (h.data hm _) rfl
    · unfold BD
      rcases h.geto c x.fd with ⟨e1,e2⟩ | ⟨m,m',e1,e2,hm⟩<;>rw [e1,e2]
      · exact Dg _ h
      · show Jh (if _ then _ else _) (if _ then _ else _)
        split
        · exact Dg _ h
        · split
          · exact Dg _ h
          · rw [h.nd hm];exact FH (h.data hm _) rfl
    · unfold Cw
      rcases h.geto c x.fd with ⟨e1,e2⟩ | ⟨m,m',e1,e2,hm⟩<;>rw [e1,e2]<;>exact Dg _ h
    · unfold CB
      rw [← f1,← p1,← p2]
      split
      · exact Dg _ h
      · rename_i hf
        split
        · rename_i hp
          exact FH ((h.node hF hG true).put (d:=(Aa F x.p1).2.1) (.inl (p3 hp)) (.inr ⟨rfl,rfl⟩) (CT hf hp)) rfl
        · exact Dg _ h
    · unfold Bj
      rw [← f1,← p2]
      split
      · exact Dg _ h
      · rename_i hX
        split
        · rename_i hf
          rw [← h.dir (f2 hf),← h.cnt hF hG (f2 hf)]
          split
          · split
            · exact Dg _ h
            · exact FH (h.take _ (p3 (Bg hf (fun e=>hX (Cq.1 e))).1)) rfl
          · exact Dg _ h
        · exact Dg _ h
    · exact h.links_
    · unfold Cb
      rw [← f1,← p2]
      split
      · rename_i hf
        rw [← h.dir (f2 hf)]
        split
        · exact Dg _ h
        · rename_i hd
          have hn:¬ Ag x.p1=some []:=fun e=>hd (hF.root_dir e)
          exact FH ((h.take _ (p3 (Bg hf hn).1)).link (f2 hf) (-1)) rfl
      · exact Dg _ h
    · exact h.rename_ hF hG
    · unfold Cn
      rw [← f1]
      split
      · rename_i hf
        rw [← h.dir (f2 hf)]
        split
        · exact FH h (by rw [h.names hF hG (f2 hf)])
        · exact Dg _ h
      · exact Dg _ h
    · unfold Cf
      rw [← f1]
      split
      · rename_i hf
        rw [← h.dir (f2 hf)]
        split
        · exact FH h (by rw [h.cnt hF hG (f2 hf)])
        · exact FH h (by rw [h.nd (f2 hf)])
      · exact Dg _ h
    · exact Dg _ h
end
end
section
structure FsA (F:FsM) (A:AdM) (n:Nat):Prop where
 ok:FsOk F
 sz:SzF F n
 ad:AdOk F A n
theorem SzF.le {F:FsM} {m n:Nat} (h:SzF F m) (hm:m≤n):SzF F n:=⟨by have:=h.1;omega,by have:=h.2.1;omega,by have:=h.2.2;omega⟩
theorem AdOk.le {F:FsM} {A:AdM} {m n:Nat} (h:AdOk F A m) (hm:m≤n):AdOk F A n:=⟨h.ld,Nat.le_trans h.hB hm,Nat.le_trans h.hC hm⟩
theorem FsA.le {F:FsM} {A:AdM} {m n:Nat} (h:FsA F A m) (hm:m≤n):FsA F A n:=⟨h.ok,h.sz.le hm,h.ad.le hm⟩
theorem Oy {w:World} {cf ob n:Nat} {F G:FsM} {r:RepM} {A:AdM} {R:List Ch} {c:Int} {x:CallM} (hS0:Sep w ((cP cf ob F A)++R)) (h:FsA F A n) (hn:n≤800) (h1:x.p1.length≤1000) (h2:x.p2.length≤1000) (h3:x.data.length≤1000) (hxf:(Lit.int .i64 x.fd).wf=true) (e:doF F c x=(G,r)) :
  CallsR Tryz.prog 14 #[π cf,ν c,.agg (cL x).toArray] w (fun v w'=>∃ A' sa sc,v=DD r sa sc∧Sep w' (Ai 0 9 1 sa r.names.length sc (r.names.flatMap sE)::(cP cf ob G A')++R)∧FsA G A' (n+1)):=by
 have z:=Mb (c:=c) (x:=x) hS0 h.ok h.ad ω (h.sz.ss hn) h1 h2 h3 hxf
 have o:=h.ok.do_ c x
 have s:=h.sz.do_ c x
 rw [e] at z o s
 exact Calls.mono z fun e W' ⟨v,e1,A',sa,sc,e2,q,hA⟩=>⟨v,e1,A',sa,sc,e2,q,⟨o,s,hA⟩⟩
end
section
section
variable {F:FsM} {A:AdM} {c:Cp} {δ:Nat→Int}
theorem KR (f:Nat→AskV):∀ k,Reach (Cc f k)
  | 0=>Pu
  | k+1=>by
    have h:=KR f k
    have h2:=FX f k
    cases hd:(f k).drop with
    | true=>rw [HQ hd];exact h.drop_ _
    | false=>rw [JY hd];exact h.do_ h2 _ _
end
end
end Go.Proofs.YtcanemamnmmbcaaGreatDoor
