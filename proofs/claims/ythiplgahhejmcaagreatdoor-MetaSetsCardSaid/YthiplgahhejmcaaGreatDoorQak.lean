/- Parts of the proof. -/
import Derived.Test.YthiplgahhejmcaaGreatDoorQaj
namespace Go.Proofs.YthiplgahhejmcaaGreatDoor
open Go.RowKit
open _root_.Go.Proofs.Tryz
set_option linter.unusedSimpArgs false
set_option linter.unusedVariables false
set_option linter.unusedSectionVars false
set_option maxRecDepth 100000
set_option maxHeartbeats 8000000
section
theorem Ru (t:List EntT) (ht:t.length=16) (s:ByteArray) (hs:s.size≤1000) (w:World):Calls prog 117 #[.agg (Aq t).toArray,.string s] w fun e w'=>e=.returned (ν (AW t s))∧Below w.heap.size w w':=Ii t s ht hs w
theorem Aei (g j:Nat) {i:Int} (hi:i=(j:Int)) (hj:j<16) (w:World):(Instr.indexAt 111 (π g) (ν i)).run prog w=.ok (.pointer (some ⟨g,j*2,none⟩)) w:=by
 subst hi
 have u3:=υ111
 have u9:=υ109
 have z3:=Tryz.sizeOf109
 have d0:(j:Int)<16:=ω
 have d1:0≤(j:Int):=ω
 go_simp
theorem LY (g j:Nat) {i:Int} (hi:i=(j:Int)) (hj:j<4) (w:World):(Instr.indexAt 22 (.pointer (some ⟨g,3,none⟩)) (ν i)).run prog w=.ok (.pointer (some ⟨g,3+j,none⟩)) w:=by
 subst hi
 have u3:=υ22
 have z3:=Tryz.sizeOf3
 have d0:(j:Int)<4:=ω
 have d1:0≤(j:Int):=ω
 go_simp
theorem RU (g j:Nat) {i:Int} (hi:i=(j:Int)) (hj:j<8) (w:World):(Instr.indexAt 23 (.pointer (some ⟨g,7,none⟩)) (ν i)).run prog w=.ok (.pointer (some ⟨g,7+j,none⟩)) w:=by
 subst hi
 have u3:=υ23
 have z3:=Tryz.sizeOf3
 have d0:(j:Int)<8:=ω
 have d1:0≤(j:Int):=ω
 go_simp
theorem Af0 {T:TypeId} {k:TypeDesc} (hu:prog.underlying T=some k) (hk:k.isRow=false) {w:World} {a:Ω} {c:Nat} {L:List ByteArray} (h:JR w a c L) {b off j:Nat} (ha:a=some ⟨b,off,none⟩) (hj:j<L.length):(Instr.loadAt T (.pointer (some ⟨b,off+j,none⟩))).run prog w=.ok (.string (L.getD j ⟨#[]⟩)) w:=by
 obtain ⟨b',off',e,_,hc⟩:=h.2.2.2.2 ω
 rw [ha] at e;cases e
 refine ldC hu hk (hc j _ ?_)
 rw [List.getElem?_map,List.getElem?_eq_getElem hj,List.getD_eq_getElem?_getD,List.getElem?_eq_getElem hj];rfl
theorem YT {t:List EntT} (ht:t.length=16) {j:Nat} (hj:j<16):(Aq t)[j*2+1]? = some (ν (t.getD j BP).ino):=by
 have h:=(EH t j ω).2
 rw [show j*2+1=2*j+1 from ω,h,List.getD_eq_getElem?_getD,List.getElem?_eq_getElem ω];rfl
def InoT.setO (x:InoT) (k:Nat) (n:Int):InoT:=match k with
 | 0=>{ x with o0:=n }
 | 1=>{ x with o1:=n }
 | 2=>{ x with o2:=n }
 | 3=>{ x with o3:=n }
 | 4=>{ x with o4:=n }
 | 5=>{ x with o5:=n }
 | 6=>{ x with o6:=n }
 | _=>{ x with o7:=n }
theorem DY (x:InoT) {k:Nat} (hk:k<4):(Ah x)[3+k]? = some (ν (x.blk k)):=by
 rcases (ω:k=0∨k=1∨k=2∨k=3) with rfl | rfl | rfl | rfl<;>rfl
theorem NH (x:InoT) {k:Nat} {n:Int} (hk:k<4):splice (Ah x) (3+k) [ν n]=Ah (x.setB k n):=by
 rcases (ω:k=0∨k=1∨k=2∨k=3) with rfl | rfl | rfl | rfl<;>rfl
theorem LV (x:InoT) {k:Nat} (hk:k<8):(Ah x)[7+k]? = some (ν (x.opn k)):=by
 rcases (ω:k=0∨k=1∨k=2∨k=3∨k=4∨k=5∨k=6∨k=7) with rfl | rfl | rfl | rfl | rfl | rfl | rfl | rfl<;>rfl
section
variable {M:MemM} {P:List PtM} {L:List ByteArray} {k:Nat} {i:Int}
theorem Lr (hk:k<L.length):L.drop k=L.getD k ⟨#[]⟩::L.drop (k+1):=by
 rw [List.drop_eq_getElem_cons hk,List.getD_eq_getElem?_getD,List.getElem?_eq_getElem hk];rfl
theorem Zf (hk:k<L.length) (h:BM M P i≠0):Ed M P (L.drop k) i=(0,BM M P i):=by
 rw [Lr hk];unfold Ed;rw [if_pos h]
theorem Wf (hk:k<L.length) (h:¬ BM M P i≠0) (h2:AW (Ar M P i) (L.getD k ⟨#[]⟩)<0):Ed M P (L.drop k) i=(0,10):=by
 rw [Lr hk];unfold Ed;rw [if_neg h,if_pos h2]
theorem Zd (hk:k<L.length) (h:¬ BM M P i≠0) (h2:¬ AW (Ar M P i) (L.getD k ⟨#[]⟩)<0) (h3:AX M P ((Ar M P i).getD (AW (Ar M P i) (L.getD k ⟨#[]⟩)).toNat BP).ino≠0∨(Al M P ((Ar M P i).getD (AW (Ar M P i) (L.getD k ⟨#[]⟩)).toNat BP).ino).k=0):Ed M P (L.drop k) i=(0,36):=by
 rw [Lr hk];unfold Ed;rw [if_neg h,if_neg h2,if_pos h3]
theorem We {q:Int×Int} (hw:Ed M P (L.drop k) i=q) (hk:k<L.length) (h:¬ BM M P i≠0) (h2:¬ AW (Ar M P i) (L.getD k ⟨#[]⟩)<0) (h3:¬ AX M P ((Ar M P i).getD (AW (Ar M P i) (L.getD k ⟨#[]⟩)).toNat BP).ino≠0∧¬ (Al M P ((Ar M P i).getD (AW (Ar M P i) (L.getD k ⟨#[]⟩)).toNat BP).ino).k=0):Ed M P (L.drop (k+1)) ((Ar M P i).getD (AW (Ar M P i) (L.getD k ⟨#[]⟩)).toNat BP).ino=q:=by
 rw [← hw,Lr hk];conv=>rhs;unfold Ed
 rw [if_neg h,if_neg h2,if_neg (fun q=>q.elim (fun q=>h3.1 q) (fun q=>h3.2 q))]
end
theorem NI {α:Type} {o:Option α} (h:o.isSome=false):o=none:=by cases o<;>simp_all
theorem Mq {X:Λ} {L:List ByteArray} (h:BX X=some L):L.length≤6:=by
 unfold BX at h
 split at h
 ·cases h;simp
 ·unfold NV at h
  split at h
  ·split at h
   ·unfold Km at h
    split at h
    ·rename_i hq;cases h;rw [List.length_map];exact hq.1
    ·cases h
   ·cases h
  ·cases h
theorem NQ {X:Λ} {L:List ByteArray} (h:BX X=some L):∀ x∈L,DQ x=true:=by
 unfold BX at h
 split at h
 ·cases h;simp
 ·unfold NV at h
  split at h
  ·split at h
   ·unfold Km at h
    split at h
    ·rename_i hq;cases h;exact List.all_eq_true.1 hq.2
    ·cases h
   ·cases h
  ·cases h
theorem TM {x:ByteArray} (h:DQ x=true):x.size≤12:=by
 unfold DQ at h;simp only [Bool.and_eq_true,decide_eq_true_eq] at h;omega
theorem XV {X:Λ} {L:List ByteArray} (h:BX X=some L) (j:Nat) (_:j<L.length):(L.getD j ⟨#[]⟩).size≤1000:=by
 have hj:j<L.length:=by assumption
 rw [List.getD_eq_getElem?_getD,List.getElem?_eq_getElem hj]
 exact Nat.le_trans (TM (NQ h _ (List.getElem_mem hj))) ω
theorem Vk {X:Λ} {A:List ByteArray} {x:ByteArray} (h:BX X=some (A++[x])) (j:Nat) (hj:j<A.length):(A.getD j ⟨#[]⟩).size≤1000:=by
 rw [List.getD_eq_getElem?_getD,List.getElem?_eq_getElem hj]
 exact Nat.le_trans (TM (NQ h _ (List.mem_append_left _ (List.getElem_mem hj)))) ω
theorem Mr {w:World} {R:List Ch} (hS:Sep w R) (X:Λ) (hX:X.length≤1000) {L:List ByteArray} (hp:BX X=some L):CallsR prog 86 #[σ X] w (fun v w'=>∃ a c,v=.tuple #[.slice a L.length c,ν 0]∧Sep w' (rwS a c L::R)):=
 Calls.mono (JB X hX w) fun e w' z=>by
  rw [hp] at z
  obtain ⟨a,c,e1,o,b⟩:=z
  exact ⟨_,e1,a,c,rfl,hS.push b (c:=rwS a c L) o.row fun k ⟨off,q,_⟩=>(World.ownsRow.lt o k (by rw [q];rfl)).1⟩
theorem Vv {w:World} {R:List Ch} (hS:Sep w R) (X:Λ) (hX:X.length≤1000) (hp:(BX X).isSome=false):CallsR prog 86 #[σ X] w (fun v w'=>∃ (a:Ω) (c:Nat),v=.tuple #[.slice a 0 c,ν 15]∧Sep w' R):=
 Calls.mono (JB X hX w) fun e w' z=>by
  rw [NI hp] at z
  obtain ⟨a,c,e1,o,b⟩:=z
  exact ⟨_,e1,a,c,rfl,hS.mono b⟩
def FD (X:Λ):Option ByteArray:=(BX X).bind (·.getLast?)
theorem IP {X:Λ} (h:(FD X).isSome=true):∃ A x,BX X=some (A++[x]):=by
 unfold FD at h
 cases hp:BX X with
 | none=>rw [hp] at h;cases h
 | some L=>
  rw [hp] at h
  rcases IZ L with rfl | ⟨A,x,rfl⟩
  ·cases h
  ·exact ⟨A,x,rfl⟩
theorem LZ {X:Λ} (h:(FD X).isSome=false):BX X=none∨BX X=some []:=by
 unfold FD at h
 cases hp:BX X with
 | none=>exact .inl rfl
 | some L=>
  rw [hp] at h
  rcases IZ L with rfl | ⟨A,x,rfl⟩
  ·exact .inr rfl
  ·simp at h
theorem ON {w:World} {R:List Ch} (hS:Sep w R) (X:Λ) (hX:X.length≤1000) {A:List ByteArray} {x:ByteArray} (hp:BX X=some (A++[x])):CallsR prog 100 #[σ X] w (fun v w'=>∃ a,v=.tuple #[.slice a A.length A.length,.string x,ν 0]∧Sep w' (rwS a A.length A::R)):=
 Calls.mono (Vt X hX w hp) fun e w' ⟨a,e1,r,b,hf⟩=>⟨_,e1,a,rfl,hS.push b (c:=rwS a A.length A) r fun k ⟨off,q,_⟩=>hf k off q⟩
theorem Qg {w:World} {R:List Ch} (hS:Sep w R) (X:Λ) (hX:X.length≤1000) (hp:(FD X).isSome=false):CallsR prog 100 #[σ X] w (fun v w'=>v=.tuple #[.slice none 0 0,σ [],ν 15]∧Sep w' R):=
 Calls.mono (St X hX w) fun e w' z=>by
  have hn:=LZ hp
  rcases z with ⟨L,x,a,c,q,_⟩ | ⟨_,e1,b⟩
  ·rcases hn with hn | hn<;>rw [hn] at q
   ·cases q
   ·have:=(Option.some.inj q).symm;simp at this
  ·exact ⟨_,e1,rfl,hS.mono b⟩
theorem Qk {M:MemM} {P:List PtM} {X:Λ} (h:(FD X).isSome=false):En M P X=(0,⟨#[]⟩,15):=by
 rcases LZ h with q | q<;>(unfold En;rw [q]);rfl
theorem FF {M:MemM} {P:List PtM} {X:Λ} {A:List ByteArray} {x:ByteArray} (h:BX X=some (A++[x])):En M P X=if (Be M P A).2≠0 then (0,⟨#[]⟩,(Be M P A).2) else if AX M P (Be M P A).1≠0 then (0,⟨#[]⟩,AX M P (Be M P A).1) else if (Al M P (Be M P A).1).k≠2 then (0,⟨#[]⟩,12) else ((Be M P A).1,x,0):=by
 unfold En;rw [h];dsimp only;rw [List.getLast?_concat];dsimp only;rw [List.dropLast_concat]
theorem Vy {e k a:Int} {x:ByteArray} (h:e≠0∨k≠2):Value.tuple #[ν 0,σ [],ν (AH [e,12])]=Value.tuple #[ν (if e≠0 then (0,(⟨#[]⟩:ByteArray),e) else if k≠2 then (0,⟨#[]⟩,12) else (a,x,0)).1,.string (if e≠0 then (0,(⟨#[]⟩:ByteArray),e) else if k≠2 then (0,⟨#[]⟩,12) else (a,x,0)).2.1,ν (if e≠0 then (0,(⟨#[]⟩:ByteArray),e) else if k≠2 then (0,⟨#[]⟩,12) else (a,x,0)).2.2]:=by
 by_cases he:e≠0
 ·rw [if_pos he,show AH [e,12]=e from by unfold AH;rw [List.find?_cons_of_pos (by simpa using he)];rfl];rfl
 ·rw [if_neg he,if_pos (h.resolve_left he)]
  have:e=0:=Classical.not_not.1 he
  subst this;rfl
def Hq (M:MemM) (P:List PtM):Int×Int:=match (List.range 32).find? (fun (k:Nat)=>decide (AX M P ((k:Int)+1)=0∧(Al M P ((k:Int)+1)).k=0)) with
 | some k=>((k:Int)+1,0)
 | none=>(0,18)
theorem Vn {M:MemM} {P:List PtM} {k:Nat} (h:∀ j,j<k→¬ (AX M P ((j:Int)+1)=0∧(Al M P ((j:Int)+1)).k=0)) (_:k<32) (hb:(¬ AX M P ((k:Int)+1)=0)∨(¬ (Al M P ((k:Int)+1)).k=0)):∀ j,j<k+1→¬ (AX M P ((j:Int)+1)=0∧(Al M P ((j:Int)+1)).k=0):=fun j hj=>by
 by_cases e:j=k
 ·subst e;exact fun q=>hb.elim (fun z=>z q.1) (fun z=>z q.2)
 ·exact h j ω
theorem Yb {M:MemM} {P:List PtM} (h:∀ j:Nat,j<32→¬ (AX M P ((j:Int)+1)=0∧(Al M P ((j:Int)+1)).k=0)):Hq M P=(0,18):=by
 unfold Hq
 rw [List.find?_eq_none.2 fun j hj=>by simpa using h j (List.mem_range.1 hj)]
theorem NN {M:MemM} {P:List PtM} {k:Nat} (hk:k<32) (h:∀ j,j<k→¬ (AX M P ((j:Int)+1)=0∧(Al M P ((j:Int)+1)).k=0)) (ok:AX M P ((k:Int)+1)=0∧(Al M P ((k:Int)+1)).k=0):Hq M P=((k:Int)+1,0):=by
 unfold Hq
 have e:(List.range 32).find? (fun (k:Nat)=>decide (AX M P ((k:Int)+1)=0∧(Al M P ((k:Int)+1)).k=0))=some k:=by
  rw [List.find?_range_eq_some]
  exact ⟨decide_eq_true ok,List.mem_range.2 hk,fun j hj=>by rw [decide_eq_false (h j hj)];rfl⟩
 rw [e]
def Bz (M:MemM) (P:List PtM) (i:Int):InoT:=if BM M P i≠0 then AT else Al M P i
def He (M:MemM) (P:List PtM) (i:Int):List EntT:=if BM M P i≠0 then Bf else Ar M P i
def Pu (M:MemM) (P:List PtM) (i:Int):Int:=if BM M P i≠0 then BM M P i else AX M P i
theorem Ku {fn:Func} {N:Nat} {l:List (Nat×Value)} {a:Act} {w:World} (hK:Kn N l a) {s c u:Nat} {T:TypeId} (h:fn.results=#[.tmp s,.cell c T,.tmp u]) {g:Nat} {e:TypeId} {L:List Value} {k:TypeDesc} {v v0:Value} (h0:opv l (.tmp s)=some v0) (hc:opv l (.tmp c)=some (π g)) (hv:opv l (.tmp u)=some v) (hb:Blk w g e L) (hu:prog.underlying T=some k) (hk:k.isRow=true) (hn:(prog.info? T).map (·.size)=some L.length):(results fn a.tmps).run prog w=.ok (.tuple #[v0,.agg L.toArray,v]) w:=by
 have hl:=run_loadVar_mid (P:=prog) w g 0 T L k hb.range hu hk hn
 have q0:a.tmps.getD s undef=v0:=hK.op h0
 have q1:a.tmps.getD c undef=π g:=hK.op hc
 have q2:a.tmps.getD u undef=v:=hK.op hv
 have q0':a.tmps[s]?.getD undef=v0:=by simpa using q0
 have q1':a.tmps[c]?.getD undef=π g:=by simpa using q1
 have q2':a.tmps[u]?.getD undef=v:=by simpa using q2
 simp [results,h,q0',q1',q2',asAddr,hl]
theorem Qv {fn:Func} {N:Nat} {l:List (Nat×Value)} {a:Act} {w:World} (hK:Kn N l a) {c d u:Nat} {T U:TypeId} (h:fn.results=#[.cell c T,.cell d U,.tmp u]) {g g2:Nat} {e e2:TypeId} {L:List Value} {t:List EntT} {k k2:TypeDesc} {v:Value} (hc:opv l (.tmp c)=some (.pointer (some ⟨g,0,none⟩))) (hd:opv l (.tmp d)=some (.pointer (some ⟨g2,0,none⟩))) (hv:opv l (.tmp u)=some v) (hb:Blk w g e L) (hb2:Blk w g2 e2 (Aq t)) (hu:Tryz.prog.underlying T=some k) (hu2:Tryz.prog.underlying U=some k2) (ht:t.length=16) (hk:k.isRow=true:=by rfl) (hk2:k2.isRow=true:=by rfl) (hn:(Tryz.prog.info? T).map (·.size)=some L.length:=by kernel_rfl) (hn2:(Tryz.prog.info? U).map (·.size)=some 32:=by kernel_rfl):(results fn a.tmps).run Tryz.prog w=.ok (.tuple #[.agg L.toArray,.agg (Aq t).toArray,v]) w:=by
 have hl:=run_loadVar_mid (P:=prog) w g 0 T L k hb.range hu hk hn
 have hl2:=run_loadVar_mid (P:=prog) w g2 0 U (Aq t) k2 hb2.range hu2 hk2 (by rw [BL,ht];exact hn2)
 have q0:a.tmps.getD d undef=π g2:=hK.op hd
 have q1:a.tmps.getD c undef=π g:=hK.op hc
 have q2:a.tmps.getD u undef=v:=hK.op hv
 have q0':a.tmps[d]?.getD undef=π g2:=by simpa using q0
 have q1':a.tmps[c]?.getD undef=π g:=by simpa using q1
 have q2':a.tmps[u]?.getD undef=v:=by simpa using q2
 simp [results,h,q0',q1',q2',asAddr,hl,hl2]
theorem Ze {w:World} {R:List Ch} {mx:Nat} {K:VolK} {ta:Ω} {tc:Nat} {M:MemM} {P:List PtM} {la:Ω} {lc:Nat} {L:List ByteArray} (hS0:Sep w ([rwS la lc L,Ab mx 99 [π K.tg],txP K ta tc M P]++R)) (hM:M.V.length=23168) (hL:L.length≤1000) (hLn:∀ j,j<L.length→(L.getD j ⟨#[]⟩).size≤1000) :
  CallsR prog 87 #[π mx,.slice la L.length lc] w (fun v w'=>v=.tuple #[ν (Be M P L).1,ν (Be M P L).2]∧Sep w' ([rwS la lc L,Ab mx 99 [π K.tg],txP K ta tc M P]++R)):=by
 have hS:Sep w [rwS la lc L,Ab mx 99 [π K.tg],txP K ta tc M P,Ch.many R]:=Sep.tail_many (xs:=[_,_,_]) hS0;clear hS0
 obtain ⟨bl,ol,hl,_⟩:=Adh (hS.get 0 rfl:JR _ _ _ _)
 refine AQ func87 rfl (N:=64) ntmps87 (by show 2≤64;decide) [(0,π mx),(1,.slice la L.length lc)] rfl fun _ h1=>sqr fun _ hK3=>mvs 2 h1 rfl fun _ h6=>wpList_nil<|hK3 _ _<|sqr fun _ hK8=>mv h6 rfl fun _ h9=>wpList_nil<|hK8 _ _<|sq fun _ hK1=>sqr fun _ hK2=>mvs 2 h9 rfl fun _ h2=>cl h2 rfl (cF func8) (FC (i:=1) (hS.pk [1,2,0,3] rfl) hM) fun _ v1 w1 r1 h3=>?_
 obtain ⟨rfl,s1⟩:=r1
 refine mvs 3 h3 rfl fun _ h4=>so (wn rfl) fun _ hK4=>AB h4 rfl rfl rfl rfl (z:=[ν 0,ν 0,ν 0,ν 0,ν 0,ν 0,ν 0,ν 0,ν 0,ν 0,ν 0,ν 0,ν 0,ν 0,ν 0]) (fun _=>rfl) s1 fun _ g1 w2 h5 s2 _ _=>hK4 _ _ ?_
 refine stA h5 s2 0 rfl rfl rfl κ rfl rfl rfl rfl fun _ w3 h7 s3 _=>mv h7 rfl fun _ h8=>h8.sn [8,6,5,4,0,1] rfl fun h10=>hK2 _ _<|sqr fun _ hK5=>mv h10 rfl fun _ h11=>bv h11 (z:=.bool (decide (AX M P 1≠0))) rfl (cNe _ _ _ _ rfl) fun _ h12=>h12.sn [23,8,6,5,4,0,1] rfl fun h13=>hK5 _ _ ?_
 rcases bC (decide (AX M P 1≠0)) with hc1 | hc1
 ·skip
  have hp1:AX M P 1≠0:=(dT hc1)
  refine wcT h13 rfl hc1<|h13.sk [8,6,5,4,0,1] rfl fun h14=>sqr fun _ hK6=>mv h14 rfl fun _ h15=>h15.sk [24,8,6,5,0,1] rfl fun h16=>mv h16 rfl fun _ h17=>h17.sk [4,24,8,6,0,1] rfl fun h18=>mv h18 rfl fun _ h19=>h19.sn [5,4,8,6,0,1] rfl fun h20=>hK6 _ _ ?_
  refine wp_ret ?_
  try simp only [Exit.then,Exit.inBlock]
  refine Bg (v:=.tuple #[ν 0,ν (AX M P 1)]) (GI h20 rfl rfl rfl) h20.defs ?_
  exact ⟨by unfold Be;rw [if_pos hp1],Sep.tail_un (xs:=[_,_,_]) (s3.pk [3,1,2,4] rfl)⟩
 ·skip
  have hp2:¬ (AX M P 1≠0):=(dF hc1)
  refine wcF h13 rfl hc1<|h13.sk [8,6,5,4,0,1] rfl fun h21=>wp_skip<|hK1 _ _<|sq fun _ hK7=>sqr fun _ hK9=>mv h21 rfl fun _ h22=>sv1 h22 rfl (v:=ν (L.length:Int)) (MC h22 rfl rfl υ60) fun _ h23=>mv h23 rfl fun _ h24=>wpList_nil<|hK9 _ _<|wp_block ?_
  refine Zh (fun (k:Nat) (i:Int) a' w'=>Kn 64 [(27,ν (k:Int)),(26,ν (L.length:Int)),(25,.slice la L.length lc),(8,ν (AX M P 1)),(6,ν i),(5,ν 0),(4,ν 0),(0,π mx),(1,.slice la L.length lc)] a'∧Sep w' [Ab g1 25 (Ah (Al M P 1)),Ab mx 99 [π K.tg],txP K ta tc M P,rwS la lc L,Ch.many R]∧(k≤L.length)∧(Ed M P (L.drop k) i=Ed M P L 1)) (fun (k:Nat) (i:Int)=>L.length-k) 0 1 ⟨h24.subs rfl,s3,Nat.zero_le _,(by rw [List.drop_zero])⟩ ?_
  rintro k1 i1 a1 w4 ⟨h25,s4,hk81,hw82⟩ K1 hK10
  refine sqr fun _ hK11=>bv h25 (z:=.bool (decide ((k1:Int)<(L.length:Int)))) rfl (cLt _ _ _ _ rfl) fun _ h26=>wpList_nil<|hK11 _ _<|sq fun _ hK12=>?_
  rcases bC (decide ((k1:Int)<(L.length:Int))) with hc2 | hc2
  ·skip
   have hp3:(k1:Int)<(L.length:Int):=(dT hc2)
   refine wcT h26 rfl hc2<|h26.sk [27,26,25,8,6,5,4,0,1] rfl fun h27=>wp_skip<|hK12 _ _<|sq fun _ hK13=>wp_block ?_
   refine sqr fun _ hK14=>sv1 h27 rfl (v:=.pointer (some ⟨bl,ol+k1,none⟩)) (BR h27 rfl rfl rfl (fun w=>ixO υ60 κ (sz:=1) (hl ω) (j:=k1) rfl ω ω w)) fun _ h28=>sw1 h28 rfl (v:=.string (L.getD k1 ⟨#[]⟩)) (rld h28 rfl rfl (Af0 υ9 rfl (s4.get 3 rfl:JR _ _ _ _) (hl ω) ω)) fun _ h29=>mv h29 rfl fun _ h30=>h30.sn [10,27,26,25,8,6,5,4,0,1] rfl fun h31=>hK14 _ _<|sqr fun _ hK15=>mvs 2 h31 rfl fun _ h32=>cl h32 rfl (cF func54) (Uf (i:=i1) (s4.pk [1,2,0,3,4] rfl) hM) fun _ v2 w5 r2 h33=>?_
   obtain ⟨rfl,s5⟩:=r2
   refine mvs 3 h33 rfl fun _ h34=>so (wn rfl) fun _ hK16=>AB h34 rfl rfl rfl rfl (z:=Aq Bf) (fun _=>rfl) s5 fun _ g2 w6 h35 s6 _ _=>hK16 _ _ ?_
   refine so (wn rfl) fun _ hK17=>Gq h35 rfl rfl s6 0 rfl (by first | exact Ay | exact Aj _ _ _ _ | exact AF (Aj _ _ _ _) _ _ | exact Ak _ _ _ | (rw [AC];exact Ak _ _ _) | assumption) (by first | exact Ay | exact Aj _ _ _ _ | exact AF (Aj _ _ _ _) _ _ | exact Ak _ _ _ | (rw [AC];exact Ak _ _ _) | assumption) rfl rfl (cs':=[Ab g2 111 (Aq (Ar M P i1)),Ab mx 99 [π K.tg],txP K ta tc M P,Ab g1 25 (Ah (Al M P 1)),rwS la lc L,Ch.many R]) rfl fun _ w7 h36 s7 _=>hK17 _ _ ?_
   refine mv h36 rfl fun _ h37=>h37.sn [12,11,10,27,26,25,8,6,5,4,0,1] rfl fun h38=>hK15 _ _<|sq fun _ hK18=>sqr fun _ hK19=>mv h38 rfl fun _ h39=>bv h39 (z:=.bool (decide (BM M P i1≠0))) rfl (cNe _ _ _ _ rfl) fun _ h40=>h40.sn [38,12,11,10,27,26,25,8,6,5,4,0,1] rfl fun h41=>hK19 _ _ ?_
   rcases bC (decide (BM M P i1≠0)) with hc3 | hc3
   ·skip
    have hp4:BM M P i1≠0:=(dT hc3)
    refine wcT h41 rfl hc3<|h41.sk [12,11,10,27,26,25,8,6,5,4,0,1] rfl fun h42=>sqr fun _ hK20=>mv h42 rfl fun _ h43=>h43.sk [39,12,11,10,27,26,25,8,6,5,0,1] rfl fun h44=>mv h44 rfl fun _ h45=>h45.sk [4,39,12,11,10,27,26,25,8,6,0,1] rfl fun h46=>mv h46 rfl fun _ h47=>h47.sn [5,4,12,11,10,27,26,25,8,6,0,1] rfl fun h48=>hK20 _ _ ?_
    refine wp_ret ?_
    try simp only [Exit.then,Exit.inBlock]
    refine Bg (v:=.tuple #[ν 0,ν (BM M P i1)]) (GI h48 rfl rfl rfl) h48.defs ?_
    have hu:Be M P L=Ed M P (L.drop k1) i1:=by unfold Be;rw [if_neg hp2,hw82]
    exact ⟨by rw [hu,Zf ω hp4],Sep.tail_un (xs:=[_,_,_]) (s7.pk [4,1,2,5] rfl)⟩
   ·skip
    have hp5:¬ (BM M P i1≠0):=(dF hc3)
    refine wcF h41 rfl hc3<|h41.sk [12,11,10,27,26,25,8,6,5,4,0,1] rfl fun h49=>wp_skip<|hK18 _ _<|sqr fun _ hK21=>sw1 h49 rfl (v:=.agg ((Aq (Ar M P i1)).toArray)) (rld h49 rfl rfl (Gf υ111 (s7.get 0 rfl:Blk _ _ _ _) (by first | exact Ay | exact Aj _ _ _ _ | exact AF (Aj _ _ _ _) _ _ | exact Ak _ _ _ | (rw [AC];exact Ak _ _ _) | assumption))) fun _ h50=>mv h50 rfl fun _ h51=>cl h51 rfl (cF func117) (Bh s7 (Ru (Ar M P i1) (by first | exact Ay | exact Aj _ _ _ _ | exact AF (Aj _ _ _ _) _ _ | exact Ak _ _ _ | (rw [AC];exact Ak _ _ _) | assumption) (L.getD k1 ⟨#[]⟩) (hLn _ ω) _)) fun _ v3 w8 r3 h52=>?_
    obtain ⟨rfl,s8⟩:=r3
    have hfb170:=Xc (Ar M P i1) (L.getD k1 ⟨#[]⟩)
    refine mv h52 rfl fun _ h53=>h53.sn [13,12,11,10,27,26,25,8,6,5,4,0,1] rfl fun h54=>hK21 _ _<|sq fun _ hK22=>sqr fun _ hK23=>mv h54 rfl fun _ h55=>bv h55 (z:=.bool (decide (AW (Ar M P i1) (L.getD k1 ⟨#[]⟩)<0))) rfl (cLt _ _ _ _ rfl) fun _ h56=>h56.sn [44,13,12,11,10,27,26,25,8,6,5,4,0,1] rfl fun h57=>hK23 _ _ ?_
    rcases bC (decide (AW (Ar M P i1) (L.getD k1 ⟨#[]⟩)<0)) with hc4 | hc4
    ·skip
     have hp6:AW (Ar M P i1) (L.getD k1 ⟨#[]⟩)<0:=(dT hc4)
     refine wcT h57 rfl hc4<|h57.sk [13,12,11,10,27,26,25,8,6,5,4,0,1] rfl fun h58=>sqr fun _ hK24=>h58.sk [13,12,11,10,27,26,25,8,6,5,0,1] rfl fun h59=>mv h59 rfl fun _ h60=>h60.sk [4,13,12,11,10,27,26,25,8,6,0,1] rfl fun h61=>mv h61 rfl fun _ h62=>wpList_nil<|hK24 _ _<|wp_ret ?_
     try simp only [Exit.then,Exit.inBlock]
     refine Bg (v:=.tuple #[ν 0,ν 10]) (GI h62 rfl rfl rfl) h62.defs ?_
     have hu:Be M P L=Ed M P (L.drop k1) i1:=by unfold Be;rw [if_neg hp2,hw82]
     exact ⟨by rw [hu,Wf ω hp5 hp6],Sep.tail_un (xs:=[_,_,_]) (s8.pk [4,1,2,5] rfl)⟩
    ·skip
     have hp7:¬ (AW (Ar M P i1) (L.getD k1 ⟨#[]⟩)<0):=(dF hc4)
     refine wcF h57 rfl hc4<|h57.sk [13,12,11,10,27,26,25,8,6,5,4,0,1] rfl fun h63=>wp_skip<|hK22 _ _<|sqr fun _ hK25=>mv h63 rfl fun _ h64=>sv1 h64 rfl (v:=.pointer (some ⟨g2,((AW (Ar M P i1) (L.getD k1 ⟨#[]⟩)).toNat)*2,none⟩)) (BR h64 rfl rfl rfl (fun w=>Aei g2 ((AW (Ar M P i1) (L.getD k1 ⟨#[]⟩)).toNat) ω ω w)) fun _ h65=>sv1 h65 rfl (v:=.pointer (some ⟨g2,((AW (Ar M P i1) (L.getD k1 ⟨#[]⟩)).toNat)*2+1,none⟩)) (rfa h65 rfl rfl (fQ 1)) fun _ h66=>sw1 h66 rfl (v:=ν (((Ar M P i1).getD ((AW (Ar M P i1) (L.getD k1 ⟨#[]⟩)).toNat) BP).ino)) (rld h66 rfl rfl (ldB υ3 rfl (s8.get 0 rfl:Blk _ _ _ _) (YT (by first | exact Ay | exact Aj _ _ _ _ | exact AF (Aj _ _ _ _) _ _ | exact Ak _ _ _ | (rw [AC];exact Ak _ _ _) | assumption) ω))) fun _ h67=>h67.sk [48,47,46,45,13,12,11,10,27,26,25,8,5,4,0,1] rfl fun h68=>mv h68 rfl fun _ h69=>?_
     refine h69.sn [6,13,12,11,10,27,26,25,8,5,4,0,1] rfl fun h70=>hK25 _ _<|sqr fun _ hK26=>mvs 2 h70 rfl fun _ h71=>cl h71 rfl (cF func8) (FC (i:=((Ar M P i1).getD ((AW (Ar M P i1) (L.getD k1 ⟨#[]⟩)).toNat) BP).ino) (s8.pk [1,2,0,3,4,5] rfl) hM) fun _ v4 w9 r4 h72=>?_
     obtain ⟨rfl,s9⟩:=r4
     refine mvs 3 h72 rfl fun _ h73=>so (wn rfl) fun _ hK27=>AB h73 rfl rfl rfl rfl (z:=[ν 0,ν 0,ν 0,ν 0,ν 0,ν 0,ν 0,ν 0,ν 0,ν 0,ν 0,ν 0,ν 0,ν 0,ν 0]) (fun _=>rfl) s9 fun _ g3 w10 h74 s10 _ _=>hK27 _ _ ?_
     refine stA h74 s10 0 rfl rfl rfl κ rfl rfl rfl rfl fun _ w11 h75 s11 _=>mv h75 rfl fun _ h76=>h76.sn [15,14,6,13,12,11,10,27,26,25,8,5,4,0,1] rfl fun h77=>hK26 _ _<|sqr fun _ hK28=>mv h77 rfl fun _ h78=>bv h78 (z:=.bool (decide (AX M P (((Ar M P i1).getD ((AW (Ar M P i1) (L.getD k1 ⟨#[]⟩)).toNat) BP).ino)≠0))) rfl (cNe _ _ _ _ rfl) fun _ h79=>mv h79 rfl fun _ h80=>sg h80 (wF h80 rfl rfl rfl) rfl rfl rfl (v:=π g3) (fun hC1=>rfa h80 rfl rfl (fQ 0) _) fun _ h81=>sg h81 (wF h81 rfl rfl rfl) rfl rfl rfl (v:=ν ((Al M P (((Ar M P i1).getD ((AW (Ar M P i1) (L.getD k1 ⟨#[]⟩)).toNat) BP).ino)).k)) (fun hC2=>(rld h81 rfl (opg rfl hC2) (ldB υ3 rfl (s11.get 0 rfl:Blk _ _ _ _) rfl))) fun _ h82=>?_
     refine sg h82 (wF h82 rfl rfl rfl) rfl rfl rfl (v:=.bool (decide ((Al M P (((Ar M P i1).getD ((AW (Ar M P i1) (L.getD k1 ⟨#[]⟩)).toNat) BP).ino)).k=0))) (fun hC3=>Aw h82 rfl (opg rfl hC3) rfl (cEq _ _ _ _ rfl) _) fun _ h83=>sv1 h83 rfl (v:=.bool ((decide (AX M P (((Ar M P i1).getD ((AW (Ar M P i1) (L.getD k1 ⟨#[]⟩)).toNat) BP).ino)≠0))||(decide ((Al M P (((Ar M P i1).getD ((AW (Ar M P i1) (L.getD k1 ⟨#[]⟩)).toNat) BP).ino)).k=0)))) (Fo h83 rfl (E:=(decide (AX M P (((Ar M P i1).getD ((AW (Ar M P i1) (L.getD k1 ⟨#[]⟩)).toNat) BP).ino)≠0))) (F:=(decide ((Al M P (((Ar M P i1).getD ((AW (Ar M P i1) (L.getD k1 ⟨#[]⟩)).toNat) BP).ino)).k=0))) rfl rfl rfl (fun e=>if_pos (by rw [e];try rfl))) fun _ h84=>h84.sn [61,15,14,6,13,12,11,10,27,26,25,8,5,4,0,1] rfl fun h85=>hK28 _ _ ?_
     rcases bC ((decide (AX M P (((Ar M P i1).getD ((AW (Ar M P i1) (L.getD k1 ⟨#[]⟩)).toNat) BP).ino)≠0))||(decide ((Al M P (((Ar M P i1).getD ((AW (Ar M P i1) (L.getD k1 ⟨#[]⟩)).toNat) BP).ino)).k=0))) with hc5 | hc5
     ·skip
      have hp8:(AX M P (((Ar M P i1).getD ((AW (Ar M P i1) (L.getD k1 ⟨#[]⟩)).toNat) BP).ino)≠0)∨((Al M P (((Ar M P i1).getD ((AW (Ar M P i1) (L.getD k1 ⟨#[]⟩)).toNat) BP).ino)).k=0):=((orT hc5).imp (fun q=>(dT q)) (fun q=>(dT q)))
      refine wcT h85 rfl hc5<|h85.sk [15,14,6,13,12,11,10,27,26,25,8,5,4,0,1] rfl fun h86=>sqr fun _ hK29=>h86.sk [15,14,6,13,12,11,10,27,26,25,8,5,0,1] rfl fun h87=>mv h87 rfl fun _ h88=>h88.sk [4,15,14,6,13,12,11,10,27,26,25,8,0,1] rfl fun h89=>mv h89 rfl fun _ h90=>wpList_nil<|hK29 _ _<|wp_ret ?_
      try simp only [Exit.then,Exit.inBlock]
      refine Bg (v:=.tuple #[ν 0,ν 36]) (GI h90 rfl rfl rfl) h90.defs ?_
      have hu:Be M P L=Ed M P (L.drop k1) i1:=by unfold Be;rw [if_neg hp2,hw82]
      exact ⟨by rw [hu,Zd ω hp5 hp7 hp8],Sep.tail_un (xs:=[_,_,_]) (s11.pk [5,1,2,6] rfl)⟩
     ·skip
      have hp9:(¬ (AX M P (((Ar M P i1).getD ((AW (Ar M P i1) (L.getD k1 ⟨#[]⟩)).toNat) BP).ino)≠0))∧(¬ ((Al M P (((Ar M P i1).getD ((AW (Ar M P i1) (L.getD k1 ⟨#[]⟩)).toNat) BP).ino)).k=0)):=(And.intro (dF (orF hc5).1) (dF (orF hc5).2))
      refine wcF h85 rfl hc5<|h85.sk [15,14,6,13,12,11,10,27,26,25,8,5,4,0,1] rfl fun h91=>wp_skip<|hK13 _ _<|wp_region_lit<|bv h91 (z:=ν ((k1+1:Nat):Int)) rfl (ES _ _ _ ω ω ω) fun _ h92=>h92.sk [62,15,14,6,13,12,11,10,26,25,8,5,4,0,1] rfl fun h93=>mv h93 rfl fun _ h94=>h94.sk [27,15,14,6,13,12,11,10,26,25,8,5,4,0,1] rfl fun h95=>wpList_nil ?_
      have hn9:=We hw82 ω hp5 hp7 hp9
      exact hK10 (k1+1) (((Ar M P i1).getD ((AW (Ar M P i1) (L.getD k1 ⟨#[]⟩)).toNat) BP).ino) _ _ ⟨h95.subs rfl,(s11.pk [4,1,2,5,6] rfl),ω,hn9⟩ ω
  ·skip
   have hp10:¬ ((k1:Int)<(L.length:Int)):=(dF hc2)
   refine wcF h26 rfl hc2<|h26.sk [27,26,25,8,6,5,4,0,1] rfl fun h96=>wp_exit ?_
   refine hK7 _ _ ?_
   refine sqr fun _ hK30=>mv h96 rfl fun _ h97=>h97.sk [63,27,26,25,8,6,5,0,1] rfl fun h98=>mv h98 rfl fun _ h99=>h99.sk [4,63,27,26,25,8,6,0,1] rfl fun h100=>mv h100 rfl fun _ h101=>h101.sn [5,4,27,26,25,8,6,0,1] rfl fun h102=>hK30 _ _<|wp_ret ?_
   try simp only [Exit.then,Exit.inBlock]
   refine Bg (v:=.tuple #[ν i1,ν 0]) (GI h102 rfl rfl rfl) h102.defs ?_
   have hu:Be M P L=Ed M P (L.drop k1) i1:=by unfold Be;rw [if_neg hp2,hw82]
   exact ⟨by rw [hu,List.drop_of_length_le ω];rfl,Sep.tail_un (xs:=[_,_,_]) (s4.pk [3,1,2,4] rfl)⟩
theorem Wp {w:World} {R:List Ch} {mx:Nat} {K:VolK} {ta:Ω} {tc:Nat} {M:MemM} {P:List PtM} {X:Λ} (hS0:Sep w ([Ab mx 99 [π K.tg],txP K ta tc M P]++R)) (hM:M.V.length=23168) (hX:X.length≤1000) :
  CallsR prog 53 #[π mx,σ X] w (fun v w'=>v=.tuple #[ν (AO M P X).1,ν (AO M P X).2]∧Sep w' ([Ab mx 99 [π K.tg],txP K ta tc M P]++R)):=by
 have hS:Sep w [Ab mx 99 [π K.tg],txP K ta tc M P,Ch.many R]:=Sep.tail_many (xs:=[_,_]) hS0;clear hS0
 refine AQ func53 rfl (N:=21) ntmps53 (by show 2≤21;decide) [(0,π mx),(1,σ X)] rfl fun _ h1=>sqr fun _ hK3=>mvs 2 h1 rfl fun _ h6=>wpList_nil<|hK3 _ _<|sqr fun _ hK8=>mv h6 rfl fun _ h9=>?_
 rcases bC ((BX X).isSome) with hc1 | hc1
 ·skip
  obtain ⟨L13,hp1⟩:=Option.isSome_iff_exists.1 hc1
  have hp14l:=Mq hp1
  refine cl h9 rfl (cF func86) (Mr hS X ω hp1) fun _ v1 w1 r1 h2=>?_
  obtain ⟨pa_x15,pc_x16,rfl,s1⟩:=r1
  refine mvs 5 h2 rfl fun _ h3=>h3.sn [7,6,5,4,0,1] rfl fun h4=>hK8 _ _<|sq fun _ hK1=>sqr fun _ hK2=>mv h4 rfl fun _ h5=>bv h5 rfl (cNe _ _ _ _ rfl) fun _ h7=>h7.sn [14,7,6,5,4,0,1] rfl fun h8=>hK2 _ _<|wcF h8 rfl rfl<|h8.sk [7,6,5,4,0,1] rfl fun h10=>?_
  refine wp_skip<|hK1 _ _<|sqr fun _ hK4=>mvs 2 h10 rfl fun _ h11=>cl h11 rfl (cF func87) (Ze s1 hM ω (XV hp1)) fun _ v2 w2 r2 h12=>?_
  obtain ⟨rfl,s2⟩:=r2
  refine mvs 2 h12 rfl fun _ h13=>h13.sk [20,19,18,17,16,7,6,5,0,1] rfl fun h14=>mv h14 rfl fun _ h15=>h15.sk [4,20,19,18,17,16,7,6,0,1] rfl fun h16=>mv h16 rfl fun _ h17=>h17.sn [5,4,7,6,0,1] rfl fun h18=>hK4 _ _<|wp_ret ?_
  try simp only [Exit.then,Exit.inBlock]
  refine Bg (v:=.tuple #[ν ((Be M P L13).1),ν ((Be M P L13).2)]) (GI h18 rfl rfl rfl) h18.defs ?_
  exact ⟨by unfold AO;rw [hp1],Sep.tail_un (xs:=[_,_]) (s2.pk [1,2,3] rfl)⟩
 ·skip
  refine cl h9 rfl (cF func86) (Vv hS X ω hc1) fun _ v3 w3 r3 h19=>?_
  obtain ⟨pa_x67,pc_x68,rfl,s3⟩:=r3
  refine mvs 5 h19 rfl fun _ h20=>h20.sn [7,6,5,4,0,1] rfl fun h21=>hK8 _ _<|sq fun _ hK5=>sqr fun _ hK6=>mv h21 rfl fun _ h22=>bv h22 rfl (cNe _ _ _ _ rfl) fun _ h23=>h23.sn [14,7,6,5,4,0,1] rfl fun h24=>hK6 _ _<|wcT h24 rfl rfl<|h24.sk [7,6,5,4,0,1] rfl fun h25=>?_
  refine sqr fun _ hK7=>mv h25 rfl fun _ h26=>h26.sk [15,7,6,5,0,1] rfl fun h27=>mv h27 rfl fun _ h28=>h28.sk [4,15,7,6,0,1] rfl fun h29=>mv h29 rfl fun _ h30=>h30.sn [5,4,7,6,0,1] rfl fun h31=>hK7 _ _<|wp_ret ?_
  try simp only [Exit.then,Exit.inBlock]
  refine Bg (v:=.tuple #[ν 0,ν 15]) (GI h31 rfl rfl rfl) h31.defs ?_
  exact ⟨by unfold AO;rw [NI hc1],Sep.tail_un (xs:=[_,_]) s3⟩
theorem Ya {w:World} {R:List Ch} {mx:Nat} {K:VolK} {ta:Ω} {tc:Nat} {M:MemM} {P:List PtM} {X:Λ} (hS0:Sep w ([Ab mx 99 [π K.tg],txP K ta tc M P]++R)) (hM:M.V.length=23168) (hX:X.length≤1000) :
  CallsR prog 70 #[π mx,σ X] w (fun v w'=>v=.tuple #[ν (ER M P X).1,.agg (Ah (ER M P X).2.1).toArray,ν (ER M P X).2.2]∧Sep w' ([Ab mx 99 [π K.tg],txP K ta tc M P]++R)):=by
 have hS:Sep w [Ab mx 99 [π K.tg],txP K ta tc M P,Ch.many R]:=Sep.tail_many (xs:=[_,_]) hS0;clear hS0
 refine AQ func70 rfl (N:=32) ntmps70 (by show 2≤32;decide) [(0,π mx),(1,σ X)] rfl fun _ h1=>sqr fun _ hK3=>mv h1 rfl fun _ h4=>so (wn rfl) fun _ hK1=>AB h4 rfl rfl rfl rfl (z:=[ν 0,ν 0,ν 0,ν 0,ν 0,ν 0,ν 0,ν 0,ν 0,ν 0,ν 0,ν 0,ν 0,ν 0,ν 0]) (fun _=>rfl) hS fun _ g6 w9 h7 s1 _ _=>hK1 _ _ ?_
 refine mv h7 rfl fun _ h2=>wpList_nil<|hK3 _ _<|sqr fun _ hK2=>mvs 2 h2 rfl fun _ h3=>cl h3 rfl (cF func53) (Wp (X:=X) (s1.pk [1,2,0,3] rfl) hM ω) fun _ v1 w2 r1 h5=>?_
 obtain ⟨rfl,s2⟩:=r1
 refine mvs 5 h5 rfl fun _ h6=>h6.sn [8,7,6,5,4,0,1] rfl fun h8=>hK2 _ _<|sq fun _ hK4=>sqr fun _ hK5=>mv h8 rfl fun _ h9=>bv h9 (z:=.bool (decide ((AO M P X).2≠0))) rfl (cNe _ _ _ _ rfl) fun _ h10=>h10.sn [17,8,7,6,5,4,0,1] rfl fun h11=>hK5 _ _ ?_
 rcases bC (decide ((AO M P X).2≠0)) with hc1 | hc1
 ·skip
  have hp1:(AO M P X).2≠0:=(dT hc1)
  refine wcT h11 rfl hc1<|h11.sk [8,7,6,5,4,0,1] rfl fun h12=>sqr fun _ hK6=>bu h12 (v:=.agg (Ah AT).toArray) rfl (fun w=>κ) fun _ h13=>mv h13 rfl fun _ h14=>h14.sk [19,18,8,7,6,5,0,1] rfl fun h15=>mv h15 rfl fun _ h16=>stA h16 s2 2 rfl rfl rfl κ rfl rfl rfl rfl fun _ w3 h17 s3 _=>h17.sk [4,19,18,8,7,5,0,1] rfl fun h18=>mv h18 rfl fun _ h19=>?_
  refine h19.sn [6,4,8,7,5,0,1] rfl fun h20=>hK6 _ _<|wp_ret ?_
  try simp only [Exit.then,Exit.inBlock]
  refine GV (v:=.tuple #[ν 0,.agg (Ah AT).toArray,ν ((AO M P X).2)]) (Ku h20 rfl rfl rfl rfl (s3.get 2 rfl:Blk _ _ _ _) υ25 rfl κ) h20.defs ?_
  exact ⟨by unfold ER;rw [if_pos hp1],Sep.tail_un (xs:=[_,_]) (s3.pk [0,1,3] rfl)⟩
 ·skip
  have hp2:¬ ((AO M P X).2≠0):=(dF hc1)
  refine wcF h11 rfl hc1<|h11.sk [8,7,6,5,4,0,1] rfl fun h21=>wp_skip<|hK4 _ _<|sqr fun _ hK7=>mvs 2 h21 rfl fun _ h22=>cl h22 rfl (cF func8) (FC (i:=(AO M P X).1) s2 hM) fun _ v2 w4 r2 h23=>?_
  obtain ⟨rfl,s4⟩:=r2
  refine mvs 3 h23 rfl fun _ h24=>so (wn rfl) fun _ hK8=>AB h24 rfl rfl rfl rfl (z:=[ν 0,ν 0,ν 0,ν 0,ν 0,ν 0,ν 0,ν 0,ν 0,ν 0,ν 0,ν 0,ν 0,ν 0,ν 0]) (fun _=>rfl) s4 fun _ g1 w5 h25 s5 _ _=>hK8 _ _ ?_
  refine stA h25 s5 0 rfl rfl rfl κ rfl rfl rfl rfl fun _ w6 h26 s6 _=>h26.sk [9,25,24,20,23,22,21,7,6,5,4,0,1] rfl fun h27=>mv h27 rfl fun _ h28=>h28.sn [8,9,7,6,5,4,0,1] rfl fun h29=>hK7 _ _<|sq fun _ hK9=>sqr fun _ hK10=>mv h29 rfl fun _ h30=>bv h30 (z:=.bool (decide (AX M P ((AO M P X).1)≠0))) rfl (cNe _ _ _ _ rfl) fun _ h31=>h31.sn [27,8,9,7,6,5,4,0,1] rfl fun h32=>hK10 _ _ ?_
  rcases bC (decide (AX M P ((AO M P X).1)≠0)) with hc2 | hc2
  ·skip
   have hp3:AX M P ((AO M P X).1)≠0:=(dT hc2)
   refine wcT h32 rfl hc2<|h32.sk [8,9,7,6,5,4,0,1] rfl fun h33=>sqr fun _ hK11=>bu h33 (v:=.agg (Ah AT).toArray) rfl (fun w=>κ) fun _ h34=>mv h34 rfl fun _ h35=>h35.sk [29,28,8,9,7,6,5,0,1] rfl fun h36=>mv h36 rfl fun _ h37=>stA h37 s6 3 rfl rfl rfl κ rfl rfl rfl rfl fun _ w7 h38 s7 _=>h38.sk [4,29,28,8,9,7,5,0,1] rfl fun h39=>mv h39 rfl fun _ h40=>?_
   refine h40.sn [6,4,8,9,7,5,0,1] rfl fun h41=>hK11 _ _<|wp_ret ?_
   try simp only [Exit.then,Exit.inBlock]
   refine GV (v:=.tuple #[ν 0,.agg (Ah AT).toArray,ν (AX M P ((AO M P X).1))]) (Ku h41 rfl rfl rfl rfl (s7.get 3 rfl:Blk _ _ _ _) υ25 rfl κ) h41.defs ?_
   exact ⟨by unfold ER;rw [if_neg hp2,if_pos hp3],Sep.tail_un (xs:=[_,_]) (s7.pk [1,2,4] rfl)⟩
  ·skip
   have hp4:¬ (AX M P ((AO M P X).1)≠0):=(dF hc2)
   refine wcF h32 rfl hc2<|h32.sk [8,9,7,6,5,4,0,1] rfl fun h42=>wp_skip<|hK9 _ _<|sq fun _ hK12=>?_
   have s8:=s6.drew
   refine wp_region_held_drew (S:=fun w'=>Sep w' [Ab g1 25 (Ah (Al M P ((AO M P X).1))),Ab mx 99 [π K.tg],txP K ta tc M P,Ch.many R]) κ (s8.pk [0,1,2,4] rfl) (fun hq1=>?_)
   refine tv1 hq1 h42 0 rfl rfl (fun w1 _=>(Ad h42 rfl rfl) w1) fun _ h43=>?_
   refine tv1 hq1 h43 1 rfl rfl (fun w1 hSw=>(rld h43 rfl rfl (ldA υ25 rfl (n:=15) κ (hSw.get 0 rfl:Blk _ _ _ _) rfl rfl))) fun _ h44=>?_
   refine h44.sk [31,30,8,9,7,6,5,0,1] rfl fun h45=>?_
   refine tv1 hq1 h45 2 rfl rfl (fun w1 _=>(AP h45 rfl rfl) w1) fun _ h46=>?_
   refine to_ 3 rfl (wn rfl) κ fun _ hK13=>Id h46 rfl rfl s8 3 rfl rfl rfl [ν ((Al M P ((AO M P X).1)).k),ν ((Al M P ((AO M P X).1)).l),ν ((Al M P ((AO M P X).1)).s),ν ((Al M P ((AO M P X).1)).b0),ν ((Al M P ((AO M P X).1)).b1),ν ((Al M P ((AO M P X).1)).b2),ν ((Al M P ((AO M P X).1)).b3),ν ((Al M P ((AO M P X).1)).o0),ν ((Al M P ((AO M P X).1)).o1),ν ((Al M P ((AO M P X).1)).o2),ν ((Al M P ((AO M P X).1)).o3),ν ((Al M P ((AO M P X).1)).o4),ν ((Al M P ((AO M P X).1)).o5),ν ((Al M P ((AO M P X).1)).o6),ν ((Al M P ((AO M P X).1)).o7)] rfl κ rfl (by show 0+15≤15;decide) (L':=[ν ((Al M P ((AO M P X).1)).k),ν ((Al M P ((AO M P X).1)).l),ν ((Al M P ((AO M P X).1)).s),ν ((Al M P ((AO M P X).1)).b0),ν ((Al M P ((AO M P X).1)).b1),ν ((Al M P ((AO M P X).1)).b2),ν ((Al M P ((AO M P X).1)).b3),ν ((Al M P ((AO M P X).1)).o0),ν ((Al M P ((AO M P X).1)).o1),ν ((Al M P ((AO M P X).1)).o2),ν ((Al M P ((AO M P X).1)).o3),ν ((Al M P ((AO M P X).1)).o4),ν ((Al M P ((AO M P X).1)).o5),ν ((Al M P ((AO M P X).1)).o6),ν ((Al M P ((AO M P X).1)).o7)]) rfl (cs':=[Ab g1 25 (Ah (Al M P ((AO M P X).1))),Ab mx 99 [π K.tg],txP K ta tc M P,Ab g6 25 (Ah (Al M P ((AO M P X).1))),Ch.many R]) rfl fun _ w8 h47 s9 _=>?_
   refine hK13 _ _ (s9.pk [0,1,2,4] rfl) fun hq2=>h47.sk [4,31,30,8,9,7,5,0,1] rfl fun h48=>?_
   refine tv1 hq2 h48 4 rfl rfl (fun w1 _=>(AP h48 rfl rfl) w1) fun _ h49=>?_
   refine h49.sk [6,4,8,9,7,5,0,1] rfl fun h50=>?_
   refine wpAnyH_done κ ?_ _
   refine hK12 _ _ ?_
   refine wp_ret ?_
   try simp only [Exit.then,Exit.inBlock]
   refine GV (v:=.tuple #[ν ((AO M P X).1),.agg (Ah (Al M P ((AO M P X).1))).toArray,ν 0]) (Ku h50 rfl rfl rfl rfl (s9.get 3 rfl:Blk _ _ _ _) υ25 rfl κ) h50.defs ?_
   exact ⟨by unfold ER;rw [if_neg hp2,if_neg hp4],Sep.tail_un (xs:=[_,_]) (s9.pk [1,2,4] rfl)⟩
theorem Aaw {w:World} {R:List Ch} {mx:Nat} {K:VolK} {ta:Ω} {tc:Nat} {M:MemM} {P:List PtM} {X:Λ} (hS0:Sep w ([Ab mx 99 [π K.tg],txP K ta tc M P]++R)) (hM:M.V.length=23168) (hX:X.length≤1000) :
  CallsR prog 67 #[π mx,σ X] w (fun v w'=>v=.tuple #[ν (En M P X).1,.string (En M P X).2.1,ν (En M P X).2.2]∧Sep w' ([Ab mx 99 [π K.tg],txP K ta tc M P]++R)):=by
 have hS:Sep w [Ab mx 99 [π K.tg],txP K ta tc M P,Ch.many R]:=Sep.tail_many (xs:=[_,_]) hS0;clear hS0
 refine AQ func67 rfl (N:=49) ntmps67 (by show 2≤49;decide) [(0,π mx),(1,σ X)] rfl fun _ h1=>sqr fun _ hK3=>mvs 3 h1 rfl fun _ h8=>wpList_nil<|hK3 _ _<|sqr fun _ hK1=>mv h8 rfl fun _ h2=>?_
 rcases bC ((FD X).isSome) with hc1 | hc1
 ·skip
  obtain ⟨L15,x16,hp1⟩:=IP hc1
  have hp17l:=Mq hp1;rw [List.length_append] at hp17l
  refine cl h2 rfl (cF func100) (ON hS X ω hp1) fun _ v1 w1 r1 h3=>?_
  obtain ⟨pa_x18,rfl,s1⟩:=r1
  refine mvs 7 h3 rfl fun _ h4=>h4.sn [9,8,7,6,5,4,0,1] rfl fun h5=>hK1 _ _<|sq fun _ hK2=>sqr fun _ hK4=>mv h5 rfl fun _ h6=>bv h6 rfl (cNe _ _ _ _ rfl) fun _ h7=>h7.sn [20,9,8,7,6,5,4,0,1] rfl fun h9=>hK4 _ _<|wcF h9 rfl rfl<|h9.sk [9,8,7,6,5,4,0,1] rfl fun h10=>?_
  refine wp_skip<|hK2 _ _<|sqr fun _ hK5=>mvs 2 h10 rfl fun _ h11=>cl h11 rfl (cF func87) (Ze s1 hM ω (Vk hp1)) fun _ v2 w2 r2 h12=>?_
  obtain ⟨rfl,s2⟩:=r2
  refine mvs 4 h12 rfl fun _ h13=>h13.sk [10,27,26,22,25,24,23,8,7,6,5,4,0,1] rfl fun h14=>mv h14 rfl fun _ h15=>h15.sn [9,10,8,7,6,5,4,0,1] rfl fun h16=>hK5 _ _<|sq fun _ hK6=>sqr fun _ hK7=>mv h16 rfl fun _ h17=>bv h17 (z:=.bool (decide ((Be M P L15).2≠0))) rfl (cNe _ _ _ _ rfl) fun _ h18=>h18.sn [29,9,10,8,7,6,5,4,0,1] rfl fun h19=>hK7 _ _ ?_
  rcases bC (decide ((Be M P L15).2≠0)) with hc2 | hc2
  ·skip
   have hp2:(Be M P L15).2≠0:=(dT hc2)
   refine wcT h19 rfl hc2<|h19.sk [9,10,8,7,6,5,4,0,1] rfl fun h20=>sqr fun _ hK8=>mv h20 rfl fun _ h21=>h21.sk [30,9,10,8,7,6,5,0,1] rfl fun h22=>mv h22 rfl fun _ h23=>h23.sk [4,30,9,10,8,7,6,0,1] rfl fun h24=>mv h24 rfl fun _ h25=>h25.sk [5,4,30,9,10,8,7,0,1] rfl fun h26=>mv h26 rfl fun _ h27=>?_
   refine h27.sn [6,5,4,9,10,8,7,0,1] rfl fun h28=>hK8 _ _<|wp_ret ?_
   try simp only [Exit.then,Exit.inBlock]
   refine Bg (v:=.tuple #[ν 0,σ [],ν ((Be M P L15).2)]) (Aa7 h28 rfl rfl rfl rfl) h28.defs ?_
   exact ⟨by rw [FF hp1,if_pos hp2];rfl,Sep.tail_un (xs:=[_,_]) (s2.pk [1,2,3] rfl)⟩
  ·skip
   have hp3:¬ ((Be M P L15).2≠0):=(dF hc2)
   refine wcF h19 rfl hc2<|h19.sk [9,10,8,7,6,5,4,0,1] rfl fun h29=>wp_skip<|hK6 _ _<|sq fun _ hK9=>sqr fun _ hK10=>mvs 2 h29 rfl fun _ h30=>cl h30 rfl (cF func8) (FC (i:=(Be M P L15).1) (s2.pk [1,2,0,3] rfl) hM) fun _ v3 w3 r3 h31=>?_
   obtain ⟨rfl,s3⟩:=r3
   refine mvs 3 h31 rfl fun _ h32=>so (wn rfl) fun _ hK11=>AB h32 rfl rfl rfl rfl (z:=[ν 0,ν 0,ν 0,ν 0,ν 0,ν 0,ν 0,ν 0,ν 0,ν 0,ν 0,ν 0,ν 0,ν 0,ν 0]) (fun _=>rfl) s3 fun _ g1 w4 h33 s4 _ _=>hK11 _ _ ?_
   refine stA h33 s4 0 rfl rfl rfl κ rfl rfl rfl rfl fun _ w5 h34 s5 _=>mv h34 rfl fun _ h35=>h35.sn [12,11,9,10,8,7,6,5,4,0,1] rfl fun h36=>hK10 _ _<|sqr fun _ hK12=>mv h36 rfl fun _ h37=>bv h37 (z:=.bool (decide (AX M P ((Be M P L15).1)≠0))) rfl (cNe _ _ _ _ rfl) fun _ h38=>mv h38 rfl fun _ h39=>sg h39 (wF h39 rfl rfl rfl) rfl rfl rfl (fun hC1=>rfa h39 rfl rfl (fQ 0) _) fun _ h40=>sg h40 (wF h40 rfl rfl rfl) rfl rfl rfl (fun hC2=>(rld h40 rfl (opg rfl hC2) (ldB υ3 rfl (s5.get 0 rfl:Blk _ _ _ _) rfl))) fun _ h41=>?_
   refine sg h41 (wF h41 rfl rfl rfl) rfl rfl rfl (fun hC3=>Aw h41 rfl (opg rfl hC3) rfl (cNe _ _ _ _ rfl) _) fun _ h42=>sv1 h42 rfl (Fo h42 rfl (E:=(decide (AX M P ((Be M P L15).1)≠0))) (F:=(decide ((Al M P ((Be M P L15).1)).k≠2))) rfl rfl rfl (fun e=>if_pos (by rw [e];try rfl))) fun _ h43=>h43.sn [43,12,11,9,10,8,7,6,5,4,0,1] rfl fun h44=>hK12 _ _ ?_
   rcases bC ((decide (AX M P ((Be M P L15).1)≠0))||(decide ((Al M P ((Be M P L15).1)).k≠2))) with hc3 | hc3
   ·skip
    have hp4:(AX M P ((Be M P L15).1)≠0)∨((Al M P ((Be M P L15).1)).k≠2):=((orT hc3).imp (fun q=>(dT q)) (fun q=>(dT q)))
    refine wcT h44 rfl hc3<|h44.sk [12,11,9,10,8,7,6,5,4,0,1] rfl fun h45=>sqr fun _ hK13=>mv h45 rfl fun _ h46=>so (wn rfl) fun _ hK14=>CH h46 rfl rfl rfl (E:=31) (xs:=[(0,.tmp 44),(1,.const (ν 12))]) rfl (vs:=[(0,ν (AX M P ((Be M P L15).1))),(1,ν 12)]) rfl (z:=[ν (AX M P ((Be M P L15).1)),ν 12]) (fun _=>κ) s5 fun _ g2 w6 h47 s6 _ _=>hK14 _ _ ?_
    refine cl h47 rfl (cF func38) (CP (L:=[AX M P ((Be M P L15).1),12]) s6 (Nat.le_of_ble_eq_true rfl)) fun _ v4 w7 r4 h48=>?_
    obtain ⟨rfl,s7⟩:=r4
    refine h48.sk [46,45,44,12,11,9,10,8,7,6,5,0,1] rfl fun h49=>mv h49 rfl fun _ h50=>h50.sk [4,46,45,44,12,11,9,10,8,7,6,0,1] rfl fun h51=>mv h51 rfl fun _ h52=>h52.sk [5,4,46,45,44,12,11,9,10,8,7,0,1] rfl fun h53=>mv h53 rfl fun _ h54=>h54.sn [6,5,4,12,11,9,10,8,7,0,1] rfl fun h55=>hK13 _ _<|wp_ret ?_
    try simp only [Exit.then,Exit.inBlock]
    refine Bg (v:=.tuple #[ν 0,σ [],ν (AH [AX M P ((Be M P L15).1),12])]) (Aa7 h55 rfl rfl rfl rfl) h55.defs ?_
    exact ⟨by rw [FF hp1,if_neg hp3];exact Vy hp4,Sep.tail_un (xs:=[_,_]) (s7.pk [2,3,5] rfl)⟩
   ·skip
    have hp5:(¬ (AX M P ((Be M P L15).1)≠0))∧(¬ ((Al M P ((Be M P L15).1)).k≠2)):=(And.intro (dF (orF hc3).1) (dF (orF hc3).2))
    refine wcF h44 rfl hc3<|h44.sk [12,11,9,10,8,7,6,5,4,0,1] rfl fun h56=>wp_skip<|hK9 _ _<|sqr fun _ hK15=>mvs 2 h56 rfl fun _ h57=>h57.sk [48,47,12,11,9,10,8,7,6,5,0,1] rfl fun h58=>mv h58 rfl fun _ h59=>h59.sk [4,48,47,12,11,9,10,8,7,6,0,1] rfl fun h60=>mv h60 rfl fun _ h61=>h61.sk [5,4,48,47,12,11,9,10,8,7,0,1] rfl fun h62=>?_
    refine mv h62 rfl fun _ h63=>h63.sn [6,5,4,12,11,9,10,8,7,0,1] rfl fun h64=>hK15 _ _<|wp_ret ?_
    try simp only [Exit.then,Exit.inBlock]
    refine Bg (v:=.tuple #[ν ((Be M P L15).1),.string x16,ν 0]) (Aa7 h64 rfl rfl rfl rfl) h64.defs ?_
    exact ⟨by rw [FF hp1,if_neg hp3,if_neg hp5.1,if_neg hp5.2],Sep.tail_un (xs:=[_,_]) (s5.pk [1,2,4] rfl)⟩
 ·skip
  refine cl h2 rfl (cF func100) (Qg hS X ω hc1) fun _ v5 w8 r5 h65=>?_
  obtain ⟨rfl,s8⟩:=r5
  refine mvs 7 h65 rfl fun _ h66=>h66.sn [9,8,7,6,5,4,0,1] rfl fun h67=>hK1 _ _<|sq fun _ hK16=>sqr fun _ hK17=>mv h67 rfl fun _ h68=>bv h68 rfl (cNe _ _ _ _ rfl) fun _ h69=>h69.sn [20,9,8,7,6,5,4,0,1] rfl fun h70=>hK17 _ _<|wcT h70 rfl rfl<|h70.sk [9,8,7,6,5,4,0,1] rfl fun h71=>?_
  refine sqr fun _ hK18=>mv h71 rfl fun _ h72=>h72.sk [21,9,8,7,6,5,0,1] rfl fun h73=>mv h73 rfl fun _ h74=>h74.sk [4,21,9,8,7,6,0,1] rfl fun h75=>mv h75 rfl fun _ h76=>h76.sk [5,4,21,9,8,7,0,1] rfl fun h77=>mv h77 rfl fun _ h78=>h78.sn [6,5,4,9,8,7,0,1] rfl fun h79=>hK18 _ _ ?_
  refine wp_ret ?_
  try simp only [Exit.then,Exit.inBlock]
  refine Bg (v:=.tuple #[ν 0,σ [],ν 15]) (Aa7 h79 rfl rfl rfl rfl) h79.defs ?_
  exact ⟨by rw [Qk hc1];rfl,Sep.tail_un (xs:=[_,_]) s8⟩
theorem Ac1 {w:World} {R:List Ch} {mx:Nat} {K:VolK} {ta:Ω} {tc:Nat} {M:MemM} {P:List PtM} (hS0:Sep w ([Ab mx 99 [π K.tg],txP K ta tc M P]++R)) (hM:M.V.length=23168)  :
  CallsR prog 101 #[π mx] w (fun v w'=>v=.tuple #[ν (Hq M P).1,ν (Hq M P).2]∧Sep w' ([Ab mx 99 [π K.tg],txP K ta tc M P]++R)):=by
 have hS:Sep w [Ab mx 99 [π K.tg],txP K ta tc M P,Ch.many R]:=Sep.tail_many (xs:=[_,_]) hS0;clear hS0
 refine AQ func101 rfl (N:=27) ntmps101 (by show 1≤27;decide) [(0,π mx)] rfl fun _ h1=>sqr fun _ hK3=>mvs 2 h1 rfl fun _ h6=>wpList_nil<|hK3 _ _<|sq fun _ hK8=>sqr fun _ hK9=>mv h6 rfl fun _ h2=>wpList_nil<|hK9 _ _<|wp_block ?_
 refine Du (fun (k:Nat) a' w'=>Kn 27 [(7,ν (k:Int)),(3,ν 0),(2,ν 0),(0,π mx)] a'∧Sep w' [Ab mx 99 [π K.tg],txP K ta tc M P,Ch.many R]∧(k≤32)∧(∀ j,j<k→¬ (AX M P ((j:Int)+1)=0∧(Al M P ((j:Int)+1)).k=0))) (fun (k:Nat)=>32-k) 0 ⟨h2.subs rfl,hS,Nat.zero_le _,(fun j hj=>absurd hj (Nat.not_lt_zero _))⟩ ?_
 rintro k1 a1 w1 ⟨h3,s1,hk17,hn18⟩ K1 hK1
 refine sqr fun _ hK2=>bv h3 (z:=.bool (decide ((k1:Int)<32))) rfl (cLt _ _ _ _ rfl) fun _ h4=>wpList_nil<|hK2 _ _<|sq fun _ hK4=>?_
 rcases bC (decide ((k1:Int)<32)) with hc1 | hc1
 ·skip
  have hp1:(k1:Int)<32:=(dT hc1)
  refine wcT h4 rfl hc1<|h4.sk [7,3,2,0] rfl fun h5=>wp_skip<|hK4 _ _<|sq fun _ hK5=>wp_block ?_
  refine sqr fun _ hK6=>mvs 2 h5 rfl fun _ h7=>h7.sn [4,7,3,2,0] rfl fun h8=>hK6 _ _<|sqr fun _ hK7=>mvs 2 h8 rfl fun _ h9=>bv h9 (z:=ν ((k1+1:Nat):Int)) rfl (ES _ _ _ ω ω ω) fun _ h10=>cl h10 rfl (cF func8) (FC (i:=((k1+1:Nat):Int)) s1 hM) fun _ v1 w2 r1 h11=>?_
  obtain ⟨rfl,s2⟩:=r1
  refine mvs 3 h11 rfl fun _ h12=>so (wn rfl) fun _ hK10=>AB h12 rfl rfl rfl rfl (z:=[ν 0,ν 0,ν 0,ν 0,ν 0,ν 0,ν 0,ν 0,ν 0,ν 0,ν 0,ν 0,ν 0,ν 0,ν 0]) (fun _=>rfl) s2 fun _ g1 w3 h13 s3 _ _=>hK10 _ _ ?_
  refine stA h13 s3 0 rfl rfl rfl κ rfl rfl rfl rfl fun _ w4 h14 s4 _=>mv h14 rfl fun _ h15=>h15.sn [6,5,4,7,3,2,0] rfl fun h16=>hK7 _ _<|sqr fun _ hK11=>mv h16 rfl fun _ h17=>bv h17 (z:=.bool (decide (AX M P ((k1+1:Nat):Int)=0))) rfl (cEq _ _ _ _ rfl) fun _ h18=>mv h18 rfl fun _ h19=>sg h19 (wT h19 rfl rfl rfl) rfl rfl rfl (fun hC1=>rfa h19 rfl rfl (fQ 0) _) fun _ h20=>sg h20 (wT h20 rfl rfl rfl) rfl rfl rfl (fun hC2=>(rld h20 rfl (opg rfl hC2) (ldB υ3 rfl (s4.get 0 rfl:Blk _ _ _ _) rfl))) fun _ h21=>?_
  refine sg h21 (wT h21 rfl rfl rfl) rfl rfl rfl (fun hC3=>Aw h21 rfl (opg rfl hC3) rfl (cEq _ _ _ _ rfl) _) fun _ h22=>sv1 h22 rfl (BQ h22 rfl (E:=(decide (AX M P ((k1+1:Nat):Int)=0))) (F:=(decide ((Al M P ((k1+1:Nat):Int)).k=0))) rfl rfl rfl (fun e=>if_pos (by rw [e];try rfl))) fun _ h23=>h23.sn [23,6,5,4,7,3,2,0] rfl fun h24=>hK11 _ _ ?_
  rcases bC ((decide (AX M P ((k1+1:Nat):Int)=0))&&(decide ((Al M P ((k1+1:Nat):Int)).k=0))) with hc2 | hc2
  ·skip
   have hp2:(AX M P ((k1+1:Nat):Int)=0)∧((Al M P ((k1+1:Nat):Int)).k=0):=(And.intro (dT (AV hc2).1) (dT (AV hc2).2))
   refine wcT h24 rfl hc2<|h24.sk [6,5,4,7,3,2,0] rfl fun h25=>sqr fun _ hK12=>mv h25 rfl fun _ h26=>bv h26 (z:=ν ((k1+1:Nat):Int)) rfl (ES _ _ _ ω ω ω) fun _ h27=>h27.sk [25,24,6,5,4,7,3,0] rfl fun h28=>mv h28 rfl fun _ h29=>h29.sk [2,25,24,6,5,4,7,0] rfl fun h30=>mv h30 rfl fun _ h31=>h31.sk [3,2,6,5,4,7,0] rfl fun h32=>?_
   refine wpList_nil<|hK12 _ _<|wp_ret ?_
   try simp only [Exit.then,Exit.inBlock]
   refine Bg (v:=.tuple #[ν ((k1+1:Nat):Int),ν 0]) (GI h32 rfl rfl rfl) h32.defs ?_
   exact ⟨by rw [NN ω hn18 hp2];rfl,Sep.tail_un (xs:=[_,_]) (s4.pk [1,2,3] rfl)⟩
  ·skip
   have hp3:(¬ (AX M P ((k1+1:Nat):Int)=0))∨(¬ ((Al M P ((k1+1:Nat):Int)).k=0)):=((Wt hc2).imp (fun q=>(dF q)) (fun q=>(dF q)))
   refine wcF h24 rfl hc2<|h24.sk [6,5,4,7,3,2,0] rfl fun h33=>wp_skip<|hK5 _ _<|wp_region_lit<|bv h33 (z:=ν ((k1+1:Nat):Int)) rfl (ES _ _ _ ω ω ω) fun _ h34=>h34.sk [26,6,5,4,3,2,0] rfl fun h35=>mv h35 rfl fun _ h36=>h36.sk [7,6,5,4,3,2,0] rfl fun h37=>wpList_nil ?_
   exact hK1 (k1+1) _ _ ⟨h37.subs rfl,(s4.pk [1,2,3] rfl),ω,(Vn hn18 ω hp3)⟩ ω
 ·skip
  have hp4:¬ ((k1:Int)<32):=(dF hc1)
  refine wcF h4 rfl hc1<|h4.sk [7,3,2,0] rfl fun h38=>wp_exit ?_
  refine hK8 _ _ ?_
  refine sqr fun _ hK13=>h38.sk [7,3,0] rfl fun h39=>mv h39 rfl fun _ h40=>h40.sk [2,7,0] rfl fun h41=>mv h41 rfl fun _ h42=>wpList_nil<|hK13 _ _<|wp_ret ?_
  try simp only [Exit.then,Exit.inBlock]
  refine Bg (v:=.tuple #[ν 0,ν 18]) (GI h42 rfl rfl rfl) h42.defs ?_
  exact ⟨by rw [Yb (fun j hj=>hn18 j ω)],Sep.tail_un (xs:=[_,_]) s1⟩
theorem KB {w:World} {R:List Ch} {mx:Nat} {K:VolK} {ta:Ω} {tc:Nat} {M:MemM} {P:List PtM} {i:Int} (hS0:Sep w ([Ab mx 99 [π K.tg],txP K ta tc M P]++R)) (hM:M.V.length=23168)  :
  CallsR prog 126 #[π mx,ν i] w (fun v w'=>v=.tuple #[.agg (Ah (Bz M P i)).toArray,.agg (Aq (He M P i)).toArray,ν (Pu M P i)]∧Sep w' ([Ab mx 99 [π K.tg],txP K ta tc M P]++R)):=by
 have hS:Sep w [Ab mx 99 [π K.tg],txP K ta tc M P,Ch.many R]:=Sep.tail_many (xs:=[_,_]) hS0;clear hS0
 refine AQ func126 rfl (N:=30) ntmps126 (by show 2≤30;decide) [(0,π mx),(1,ν i)] rfl fun _ h1=>sqr fun _ hK3=>so (wn rfl) fun _ hK1=>AB h1 rfl rfl rfl rfl (z:=[ν 0,ν 0,ν 0,ν 0,ν 0,ν 0,ν 0,ν 0,ν 0,ν 0,ν 0,ν 0,ν 0,ν 0,ν 0]) (fun _=>rfl) hS fun _ g4 w7 h5 s8 _ _=>hK1 _ _ ?_
 refine so (wn rfl) fun _ hK2=>AB h5 rfl rfl rfl rfl (z:=Aq Bf) (fun _=>rfl) s8 fun _ g1 w2 h2 s1 _ _=>hK2 _ _ ?_
 refine mv h2 rfl fun _ h3=>wpList_nil<|hK3 _ _<|sqr fun _ hK4=>mvs 2 h3 rfl fun _ h4=>cl h4 rfl (cF func54) (Uf (i:=i) (s1.pk [2,3,0,1,4] rfl) hM) fun _ v1 w3 r1 h6=>?_
 obtain ⟨rfl,s2⟩:=r1
 refine mvs 3 h6 rfl fun _ h7=>so (wn rfl) fun _ hK5=>AB h7 rfl rfl rfl rfl (z:=Aq Bf) (fun _=>rfl) s2 fun _ g2 w4 h8 s3 _ _=>hK5 _ _ ?_
 refine so (wn rfl) fun _ hK6=>Gq h8 rfl rfl s3 0 rfl (by first | exact Ay | exact Aj _ _ _ _ | exact AF (Aj _ _ _ _) _ _ | exact Ak _ _ _ | (rw [AC];exact Ak _ _ _) | assumption) (by first | exact Ay | exact Aj _ _ _ _ | exact AF (Aj _ _ _ _) _ _ | exact Ak _ _ _ | (rw [AC];exact Ak _ _ _) | assumption) rfl rfl (cs':=[Ab g2 111 (Aq (Ar M P i)),Ab mx 99 [π K.tg],txP K ta tc M P,Ab g1 111 (Aq Bf),Ab g4 25 (Ah AT),Ch.many R]) rfl fun _ w5 h9 s4 _=>hK6 _ _ ?_
 refine mv h9 rfl fun _ h10=>h10.sn [8,7,6,5,4,0,1] rfl fun h11=>hK4 _ _<|sq fun _ hK7=>sqr fun _ hK8=>mv h11 rfl fun _ h12=>bv h12 (z:=.bool (decide (BM M P i≠0))) rfl (cNe _ _ _ _ rfl) fun _ h13=>h13.sn [17,8,7,6,5,4,0,1] rfl fun h14=>hK8 _ _ ?_
 rcases bC (decide (BM M P i≠0)) with hc1 | hc1
 ·skip
  have hp1:BM M P i≠0:=(dT hc1)
  refine wcT h14 rfl hc1<|h14.sk [8,7,6,5,4,0,1] rfl fun h15=>sqr fun _ hK9=>bu h15 (v:=.agg (Ah AT).toArray) rfl (fun w=>κ) fun _ h16=>bu h16 (v:=.agg ((Aq Bf).toArray)) rfl (fun w=>κ) fun _ h17=>mv h17 rfl fun _ h18=>stA h18 s4 4 rfl rfl rfl κ rfl rfl rfl rfl fun _ w6 h19 s5 _=>so (wn rfl) fun _ hK10=>Gq h19 rfl rfl s5 3 rfl (by first | exact Ay | exact Aj _ _ _ _ | exact AF (Aj _ _ _ _) _ _ | exact Ak _ _ _ | (rw [AC];exact Ak _ _ _) | assumption) (by first | exact Ay | exact Aj _ _ _ _ | exact AF (Aj _ _ _ _) _ _ | exact Ak _ _ _ | (rw [AC];exact Ak _ _ _) | assumption) rfl rfl (cs':=[Ab g2 111 (Aq (Ar M P i)),Ab mx 99 [π K.tg],txP K ta tc M P,Ab g1 111 (Aq Bf),Ab g4 25 (Ah AT),Ch.many R]) rfl fun _ w8 h20 s6 _=>hK10 _ _ ?_
  refine h20.sk [20,19,18,8,7,5,4,0,1] rfl fun h21=>mv h21 rfl fun _ h22=>h22.sn [6,8,7,5,4,0,1] rfl fun h23=>hK9 _ _<|wp_ret ?_
  try simp only [Exit.then,Exit.inBlock]
  refine GV (v:=.tuple #[.agg (Ah AT).toArray,.agg ((Aq Bf).toArray),ν (BM M P i)]) (Qv h23 rfl rfl rfl rfl (s6.get 4 rfl:Blk _ _ _ _) (s6.get 3 rfl:Blk _ _ _ _) υ25 υ111 (by first | exact Ay | exact Aj _ _ _ _ | exact AF (Aj _ _ _ _) _ _ | exact Ak _ _ _ | (rw [AC];exact Ak _ _ _) | assumption)) h23.defs ?_
  exact ⟨by unfold Bz He Pu;rw [if_pos hp1,if_pos hp1,if_pos hp1],Sep.tail_un (xs:=[_,_]) (s6.pk [1,2,5] rfl)⟩
 ·skip
  have hp2:¬ (BM M P i≠0):=(dF hc1)
  refine wcF h14 rfl hc1<|h14.sk [8,7,6,5,4,0,1] rfl fun h24=>wp_skip<|hK7 _ _<|sqr fun _ hK11=>mvs 2 h24 rfl fun _ h25=>cl h25 rfl (cF func8) (FC (i:=i) (s4.pk [1,2,0,3,4,5] rfl) hM) fun _ v2 w9 r2 h26=>?_
  obtain ⟨rfl,s7⟩:=r2
  refine mvs 3 h26 rfl fun _ h27=>so (wn rfl) fun _ hK12=>AB h27 rfl rfl rfl rfl (z:=[ν 0,ν 0,ν 0,ν 0,ν 0,ν 0,ν 0,ν 0,ν 0,ν 0,ν 0,ν 0,ν 0,ν 0,ν 0]) (fun _=>rfl) s7 fun _ g3 w10 h28 s9 _ _=>hK12 _ _ ?_
  refine stA h28 s9 0 rfl rfl rfl κ rfl rfl rfl rfl fun _ w11 h29 s10 _=>h29.sk [9,26,25,21,24,23,22,7,6,5,4,0,1] rfl fun h30=>mv h30 rfl fun _ h31=>h31.sn [8,9,7,6,5,4,0,1] rfl fun h32=>hK11 _ _<|sq fun _ hK13=>?_
  have s11:=s10.drew
  refine wp_region_held_drew (S:=fun w'=>Sep w' [Ab g3 25 (Ah (Al M P i)),Ab mx 99 [π K.tg],txP K ta tc M P,Ab g2 111 (Aq (Ar M P i)),Ch.many R]) κ (s11.pk [0,1,2,3,6] rfl) (fun hq1=>?_)
  refine tv1 hq1 h32 0 rfl rfl (fun w1 hSw=>(rld h32 rfl rfl (ldA υ25 rfl (n:=15) κ (hSw.get 0 rfl:Blk _ _ _ _) rfl rfl))) fun _ h33=>?_
  refine tv1 hq1 h33 1 rfl rfl (fun w1 hSw=>(rld h33 rfl rfl (Gf υ111 (hSw.get 3 rfl:Blk _ _ _ _) (by first | exact Ay | exact Aj _ _ _ _ | exact AF (Aj _ _ _ _) _ _ | exact Ak _ _ _ | (rw [AC];exact Ak _ _ _) | assumption)))) fun _ h34=>?_
  refine tv1 hq1 h34 2 rfl rfl (fun w1 _=>(Ad h34 rfl rfl) w1) fun _ h35=>?_
  refine to_ 3 rfl (wn rfl) κ fun _ hK14=>Id h35 rfl rfl s11 5 rfl rfl rfl [ν ((Al M P i).k),ν ((Al M P i).l),ν ((Al M P i).s),ν ((Al M P i).b0),ν ((Al M P i).b1),ν ((Al M P i).b2),ν ((Al M P i).b3),ν ((Al M P i).o0),ν ((Al M P i).o1),ν ((Al M P i).o2),ν ((Al M P i).o3),ν ((Al M P i).o4),ν ((Al M P i).o5),ν ((Al M P i).o6),ν ((Al M P i).o7)] rfl κ rfl (by show 0+15≤15;decide) (L':=[ν ((Al M P i).k),ν ((Al M P i).l),ν ((Al M P i).s),ν ((Al M P i).b0),ν ((Al M P i).b1),ν ((Al M P i).b2),ν ((Al M P i).b3),ν ((Al M P i).o0),ν ((Al M P i).o1),ν ((Al M P i).o2),ν ((Al M P i).o3),ν ((Al M P i).o4),ν ((Al M P i).o5),ν ((Al M P i).o6),ν ((Al M P i).o7)]) rfl (cs':=[Ab g3 25 (Ah (Al M P i)),Ab mx 99 [π K.tg],txP K ta tc M P,Ab g2 111 (Aq (Ar M P i)),Ab g1 111 (Aq Bf),Ab g4 25 (Ah (Al M P i)),Ch.many R]) rfl fun _ w12 h36 s12 _=>?_
  refine hK14 _ _ (s12.pk [0,1,2,3,6] rfl) fun hq2=>?_
  refine to_ 4 rfl (wn rfl) κ fun _ hK15=>Gq h36 rfl rfl s12 4 rfl (by first | exact Ay | exact Aj _ _ _ _ | exact AF (Aj _ _ _ _) _ _ | exact Ak _ _ _ | (rw [AC];exact Ak _ _ _) | assumption) (by first | exact Ay | exact Aj _ _ _ _ | exact AF (Aj _ _ _ _) _ _ | exact Ak _ _ _ | (rw [AC];exact Ak _ _ _) | assumption) rfl rfl (cs':=[Ab g3 25 (Ah (Al M P i)),Ab mx 99 [π K.tg],txP K ta tc M P,Ab g2 111 (Aq (Ar M P i)),Ab g1 111 (Aq (Ar M P i)),Ab g4 25 (Ah (Al M P i)),Ch.many R]) rfl fun _ w13 h37 s13 _=>?_
  refine hK15 _ _ (s13.pk [0,1,2,3,6] rfl) fun hq3=>h37.sk [29,28,27,8,9,7,5,4,0,1] rfl fun h38=>?_
  refine tv1 hq3 h38 5 rfl rfl (fun w1 _=>(AP h38 rfl rfl) w1) fun _ h39=>?_
  refine h39.sk [6,8,9,7,5,4,0,1] rfl fun h40=>?_
  refine wpAnyH_done κ ?_ _
  refine hK13 _ _ ?_
  refine wp_ret ?_
  try simp only [Exit.then,Exit.inBlock]
  refine GV (v:=.tuple #[.agg (Ah (Al M P i)).toArray,.agg ((Aq (Ar M P i)).toArray),ν (AX M P i)]) (Qv h40 rfl rfl rfl rfl (s13.get 5 rfl:Blk _ _ _ _) (s13.get 4 rfl:Blk _ _ _ _) υ25 υ111 (by first | exact Ay | exact Aj _ _ _ _ | exact AF (Aj _ _ _ _) _ _ | exact Ak _ _ _ | (rw [AC];exact Ak _ _ _) | assumption)) h40.defs ?_
  exact ⟨by unfold Bz He Pu;rw [if_neg hp2,if_neg hp2,if_neg hp2],Sep.tail_un (xs:=[_,_]) (s13.pk [1,2,6] rfl)⟩
end
section
theorem Sg {w:World} {R:List Ch} {mx:Nat} {K:VolK} {ta:Ω} {tc:Nat} {M:MemM} {P:List PtM} {n:Int} (hS0:Sep w ([Ab mx 99 [π K.tg],txP K ta tc M P]++R)) (hM:M.V.length=23168) (h:Hq M P=(n,0)):CallsR prog 101 #[π mx] w (fun v w'=>v=.tuple #[ν n,ν 0]∧Sep w' ([Ab mx 99 [π K.tg],txP K ta tc M P]++R)):=
 Calls.mono (Ac1 hS0 hM) fun e w' z=>by rw [h] at z;exact z
theorem Vm {w:World} {R:List Ch} {mx:Nat} {K:VolK} {ta:Ω} {tc:Nat} {M:MemM} {P:List PtM} {X:Λ} (hS0:Sep w ([Ab mx 99 [π K.tg],txP K ta tc M P]++R)) (hM:M.V.length=23168) (hX:X.length≤1000) (h:ER M P X=(0,AT,10)):CallsR prog 70 #[π mx,σ X] w (fun v w'=>v=.tuple #[ν 0,.agg (Ah AT).toArray,ν 10]∧Sep w' ([Ab mx 99 [π K.tg],txP K ta tc M P]++R)):=
 Calls.mono (Ya hS0 hM hX) fun e w' z=>by rw [h] at z;exact z
theorem Ql {w:World} {R:List Ch} (hS:Sep w R) {t:List EntT} {s:ByteArray} (ht:t.length=16) (hs:s.size≤1000) {j:Nat} (hp:FS t s=(j:Int)):CallsR prog 127 #[.agg (Aq t).toArray,.string s] w (fun v w'=>v=ν (j:Int)∧Sep w' R):=
 Calls.mono (IV t s ht hs w) fun e w' z=>⟨_,z.1,by rw [hp],hS.mono z.2⟩
theorem Ga (M:MemM) (P:List PtM) (i:Int):(He M P i).length=16:=by
 unfold He;split
 ·exact Ay
 ·exact Ak _ _ _
theorem Ta {w:World} {R:List Ch} (hS:Sep w R) {t:List EntT} (ht:t.length=16) {k:Int} (hu:Gs t k=true):CallsR prog 156 #[.agg (Aq t).toArray,ν k] w (fun v w'=>v=.bool true∧Sep w' R):=
 Calls.mono (Og t ht k w) fun e w' z=>⟨_,z.1,by rw [hu],hS.mono z.2⟩
theorem Pd {w:World} {R:List Ch} (hS:Sep w R) {t:List EntT} (ht:t.length=16) {k:Int} {bs:Λ} (hb:IH t k=some bs):CallsR prog 158 #[.agg (Aq t).toArray,ν k] w (fun v w'=>∃ a c,v=.tuple #[.slice a bs.length c,ν 0]∧Sep w' (BC 0 5 1 a bs.length c (bs.map Ac)::R)):=
 Calls.mono (SW t ht k w) fun e w' z=>by
  rw [hb] at z
  obtain ⟨a,c,e1,o,b⟩:=z
  exact ⟨_,e1,a,c,rfl,hS.push b (c:=BC 0 5 1 a _ c _) (Own.low o (Nat.zero_le _)) fun k hk=>(World.ownsRow.lt o k hk).1⟩
def UI (M:MemM) (P:List PtM) (p:Int) (x:InoT) (j:Nat) (bs:Λ):Int:=AH [0,stE M P 7 (x.blk (j / 4)) bs.length,Bj M (stP M P 7 (x.blk (j / 4)) bs) p x]
def WW (M:MemM) (P:List PtM) (p:Int) (x:InoT) (j:Nat) (bs:Λ):List PtM:=Br M (stP M P 7 (x.blk (j / 4)) bs) p x
def RN (x:InoT):InoT:={ x with s:=x.s+1 }
def Agh (M:MemM) (P:List PtM) (p:Int) (j:Nat) (bs:Λ):Int:=UI M P p (RN (Bz M P p)) j bs
def Agi (M:MemM) (P:List PtM) (p:Int) (j:Nat) (bs:Λ):List PtM:=WW M P p (RN (Bz M P p)) j bs
def Wq (M:MemM) (P:List PtM) (p spare:Int) (j:Nat) (bs:Λ):Int:=UI M (bP M P spare) p (RN ((Bz M P p).setB (j / 4) (bN M P spare))) j bs
def Wr (M:MemM) (P:List PtM) (p spare:Int) (j:Nat) (bs:Λ):List PtM:=WW M (bP M P spare) p (RN ((Bz M P p).setB (j / 4) (bN M P spare))) j bs
theorem Adi (x:InoT) (k:Nat) (n:Int):(x.setB k n).s=x.s:=by unfold InoT.setB;split<;>rfl
theorem YY (j:Nat):(j:Int).tdiv 4=((j / 4:Nat):Int):=rfl
theorem SN {w:World} {R:List Ch} {mx:Nat} {K:VolK} {ta:Ω} {tc:Nat} {M:MemM} {P:List PtM} {p n:Int} {x:InoT} {t:List EntT} {j:Nat} {nm:ByteArray} {bs:Λ} (hS0:Sep w ([Ab mx 99 [π K.tg],txP K ta tc M P]++R)) (hM:M.V.length=23168) (ht:t.length=16) (hj:j<16) (hu:Gs (EM t (j:Int) ⟨nm,n⟩) (((j / 4:Nat):Nat):Int)=true) (hb:IH (EM t (j:Int) ⟨nm,n⟩) ((j / 4:Nat):Int)=some bs) (hbl:bs.length≤64) :
  CallsR prog 128 #[π mx,ν p,.agg (Ah x).toArray,.agg ((Aq t).toArray),ν (j:Int),.agg #[.string nm,ν n]] w (fun v w'=>∃ ta' tc',v=ν (UI M P p x j bs)∧Sep w' ([Ab mx 99 [π K.tg],txP K ta' tc' M (WW M P p x j bs)]++R)):=by
 have hS:Sep w [Ab mx 99 [π K.tg],txP K ta tc M P,Ch.many R]:=Sep.tail_many (xs:=[_,_]) hS0;clear hS0
 refine AQ func128 rfl (N:=66) ntmps128 (by show 6≤66;decide) [(0,π mx),(1,ν p),(2,.agg (Ah x).toArray),(3,.agg ((Aq t).toArray)),(4,ν (j:Int)),(5,.agg #[.string nm,ν n])] rfl fun _ h1=>sqr fun _ hK3=>so (wn rfl) fun _ hK1=>FV h1 rfl rfl rfl rfl rfl (z:=(Ah x)) rfl hS fun _ g4 w7 h5 s8 _ _=>hK1 _ _ ?_
 refine so (wn rfl) fun _ hK2=>FV h5 rfl rfl rfl rfl rfl (z:=Aq t) rfl s8 fun _ g1 w2 h2 s1 _ _=>hK2 _ _ ?_
 refine so (wn rfl) fun _ hK4=>FV h2 rfl rfl rfl rfl rfl (z:=[.string nm,ν n]) rfl s1 fun _ g2 w3 h3 s2 _ _=>hK4 _ _ ?_
 refine mv h3 rfl fun _ h4=>wpList_nil<|hK3 _ _<|sqr fun _ hK5=>sw1 h4 rfl (v:=.agg ((Aq t).toArray)) (rld h4 rfl rfl (Gf υ111 (s2.get 1 rfl:Blk _ _ _ _) ht)) fun _ h6=>mv h6 rfl fun _ h7=>sw1 h7 rfl (v:=.agg #[.string nm,ν n]) (rld h7 rfl rfl (ldA υ109 rfl (n:=2) κ (s2.get 0 rfl:Blk _ _ _ _) rfl rfl)) fun _ h8=>cl h8 rfl (cF func155) (Bh s2 (MQ t (j:Int) nm n ht _)) fun _ v1 w4 r1 h9=>?_
 obtain ⟨rfl,s3⟩:=r1
 refine mv h9 rfl fun _ h10=>bv h10 (z:=ν ((j / 4:Nat):Int)) rfl (Ab2 _ _ _ (by decide) (YY _) ω ω) fun _ h11=>so (wn rfl) fun _ hK6=>Gq h11 rfl rfl s3 1 rfl ht (by rw [AC];exact ht) rfl rfl (cs':=[Ab g2 109 [.string nm,ν n],Ab g1 111 (Aq (EM t (j:Int) ⟨nm,n⟩)),Ab g4 25 (Ah x),Ab mx 99 [π K.tg],txP K ta tc M P,Ch.many R]) rfl fun _ w5 h12 s4 _=>hK6 _ _ ?_
 refine mv h12 rfl fun _ h13=>h13.sn [13,12,11,9,8,0,1,2,3,4,5] rfl fun h14=>hK5 _ _<|sq fun _ hK7=>sqr fun _ hK8=>sw1 h14 rfl (v:=.agg ((Aq (EM t (j:Int) ⟨nm,n⟩)).toArray)) (rld h14 rfl rfl (Gf υ111 (s4.get 1 rfl:Blk _ _ _ _) (by rw [AC];exact ht))) fun _ h15=>mv h15 rfl fun _ h16=>cl h16 rfl (cF func156) (Ta s4 (by rw [AC];exact ht) hu) fun _ v2 w6 r2 h17=>?_
 obtain ⟨rfl,s5⟩:=r2
 refine mv h17 rfl fun _ h18=>h18.sn [26,13,12,11,9,8,0,1,2,3,4,5] rfl fun h19=>hK8 _ _<|wcF h19 rfl rfl<|h19.sk [13,12,11,9,8,0,1,2,3,4,5] rfl fun h20=>wp_skip<|hK7 _ _<|sqr fun _ hK9=>sw1 h20 rfl (v:=.agg ((Aq (EM t (j:Int) ⟨nm,n⟩)).toArray)) (rld h20 rfl rfl (Gf υ111 (s5.get 1 rfl:Blk _ _ _ _) (by rw [AC];exact ht))) fun _ h21=>mv h21 rfl fun _ h22=>cl h22 rfl (cF func158) (Pd s5 (by rw [AC];exact ht) hb) fun _ v3 w8 r3 h23=>?_
 obtain ⟨pa_x79,pc_x80,rfl,s6⟩:=r3
 refine mvs 5 h23 rfl fun _ h24=>h24.sn [16,15,13,12,11,9,8,0,1,2,3,4,5] rfl fun h25=>hK9 _ _<|sq fun _ hK10=>?_
 have s7:=s6.drew
 refine wp_region_held_drew (S:=fun w'=>Sep w' [BC 0 5 1 pa_x79 (bs).length pc_x80 ((bs).map Ac),Ab g2 109 [.string nm,ν n],Ab g1 111 (Aq (EM t (j:Int) ⟨nm,n⟩)),Ab g4 25 (Ah x),Ab mx 99 [π K.tg],Ch.many R]) κ (s7.pk [0,1,2,3,4,6] rfl) (fun hq1=>?_)
 refine tv1 hq1 h25 0 rfl rfl (v:=ν 0) (fun w1 _=>(Ad h25 rfl rfl) w1) fun _ h26=>?_
 refine tv1 hq1 h26 1 rfl rfl (v:=π mx) (fun w1 _=>(Ad h26 rfl rfl) w1) fun _ h27=>?_
 refine tv1 hq1 h27 2 rfl rfl (v:=ν ((j / 4:Nat):Int)) (fun w1 _=>(Ad h27 rfl rfl) w1) fun _ h28=>?_
 refine tv1 hq1 h28 3 rfl rfl (v:=.pointer (some ⟨g4,3,none⟩)) (fun w1 _=>(rfa h28 rfl rfl (fQ 3)) w1) fun _ h29=>?_
 refine tv1 hq1 h29 4 rfl rfl (v:=.pointer (some ⟨g4,3+(j / 4),none⟩)) (fun w1 _=>(BR h29 rfl rfl rfl (fun w=>LY g4 (j / 4) ω ω w)) w1) fun _ h30=>?_
 refine tv1 hq1 h30 5 rfl rfl (v:=ν (x.blk (j / 4))) (fun w1 hSw=>(rld h30 rfl rfl (ldB υ3 rfl (hSw.get 3 rfl:Blk _ _ _ _) (DY x ω)))) fun _ h31=>?_
 refine tv1 hq1 h31 6 rfl rfl (v:=.slice pa_x79 bs.length pc_x80) (fun w1 _=>(Ad h31 rfl rfl) w1) fun _ h32=>?_
 refine tv1 hq1 h32 8 rfl rfl (v:=π mx) (fun w1 _=>(Ad h32 rfl rfl) w1) fun _ h33=>?_
 refine tv1 hq1 h33 9 rfl rfl (v:=ν p) (fun w1 _=>(Ad h33 rfl rfl) w1) fun _ h34=>?_
 refine tv1 hq1 h34 10 rfl rfl (v:=.agg (Ah x).toArray) (fun w1 hSw=>(rld h34 rfl rfl (ldA υ25 rfl (n:=15) κ (hSw.get 3 rfl:Blk _ _ _ _) rfl rfl))) fun _ h35=>?_
 refine to_ 7 rfl (wn rfl) κ fun _ hK11=>AJ h35 rfl rfl rfl (xs:=[.tmp 53,.const (ν 7),.tmp 57,.tmp 58]) rfl (cF func30) rfl (vs:=[π mx,ν 7,ν (x.blk (j / 4)),.slice pa_x79 bs.length pc_x80]) rfl (args:=#[π mx,ν 7,ν (x.blk (j / 4)),.slice pa_x79 bs.length pc_x80]) rfl (CX (kd:=7) (nm:=x.blk (j / 4)) (xs:=bs) (s7.pk [0,4,5,1,2,3,6] rfl) hM ω) fun _ v4 w9 r4 h36=>?_
 obtain ⟨tax123,tcx124,rfl,s9⟩:=r4
 refine hK11 _ _ (s9.pk [0,3,4,5,1,6] rfl) fun hq2=>?_
 refine to_ 11 rfl (wn rfl) κ fun _ hK12=>AJ h36 rfl rfl rfl (xs:=[.tmp 60,.tmp 61,.tmp 62]) rfl (cF func9) rfl (vs:=[π mx,ν p,.agg (Ah x).toArray]) rfl (args:=#[π mx,ν p,.agg (Ah x).toArray]) rfl (CF (i:=p) (x:=x) (s9.pk [1,2,0,3,4,5,6] rfl) hM) fun _ v5 w10 r5 h37=>?_
 obtain ⟨tax133,tcx134,rfl,s10⟩:=r5
 refine hK12 _ _ (s10.pk [2,3,4,5,0,6] rfl) fun hq3=>?_
 refine to_ 12 rfl (wn rfl) κ fun _ hK13=>CH h37 rfl rfl rfl (E:=31) (xs:=[(0,.tmp 52),(1,.tmp 59),(2,.tmp 63)]) rfl (vs:=[(0,ν 0),(1,ν (stE M P 7 (x.blk (j / 4)) bs.length)),(2,ν (Bj M (stP M P 7 (x.blk (j / 4)) bs) p x))]) rfl (z:=[ν 0,ν (stE M P 7 (x.blk (j / 4)) bs.length),ν (Bj M (stP M P 7 (x.blk (j / 4)) bs) p x)]) (fun _=>κ) s10 fun _ g3 w11 h38 s11 _ _=>?_
 refine hK13 _ _ (s11.pk [3,4,5,6,1,7] rfl) fun hq4=>?_
 refine to_ 13 rfl (wn rfl) κ fun _ hK14=>AJ h38 rfl rfl rfl (xs:=[.tmp 64]) rfl (cF func38) rfl (vs:=[.slice (some ⟨g3,0,none⟩) 3 3]) rfl (args:=#[.slice (some ⟨g3,0,none⟩) 3 3]) rfl (CP (L:=[0,stE M P 7 (x.blk (j / 4)) bs.length,Bj M (stP M P 7 (x.blk (j / 4)) bs) p x]) s11 (Nat.le_of_ble_eq_true rfl)) fun _ v6 w12 r6 h39=>?_
 obtain ⟨rfl,s12⟩:=r6
 refine hK14 _ _ (s12.pk [3,4,5,6,1,7] rfl) fun hq5=>h39.sk [65,64,63,59,62,61,60,58,57,56,55,54,53,52,16,15,13,11,9,8,0,1,2,3,4,5] rfl fun h40=>?_
 refine tv1 hq5 h40 14 rfl rfl (v:=ν (AH [0,stE M P 7 (x.blk (j / 4)) bs.length,Bj M (stP M P 7 (x.blk (j / 4)) bs) p x])) (fun w1 _=>(AP h40 rfl rfl) w1) fun _ h41=>?_
 refine h41.sk [12,16,15,13,11,9,8,0,1,2,3,4,5] rfl fun h42=>?_
 refine wpAnyH_done κ ?_ _
 refine hK10 _ _ ?_
 refine wp_ret ?_
 try simp only [Exit.then,Exit.inBlock]
 refine Bg (v:=ν (AH [0,stE M P 7 (x.blk (j / 4)) bs.length,Bj M (stP M P 7 (x.blk (j / 4)) bs) p x])) (Cl h42 rfl rfl) h42.defs ?_
 exact ⟨tax133,tcx134,rfl,Sep.tail_un (xs:=[_,_]) (s12.pk [1,2,7] rfl)⟩
theorem Abz {w:World} {R:List Ch} {mx:Nat} {K:VolK} {ta:Ω} {tc:Nat} {M:MemM} {P:List PtM} {p n spare:Int} {j:Nat} {nm:ByteArray} {bs:Λ} (hS0:Sep w ([Ab mx 99 [π K.tg],txP K ta tc M P]++R)) (hM:M.V.length=23168) (hs:nm.size≤1000) (hsp:-9223372036854775808≤spare∧spare≤9223372036854775807) (hj:j<16) (hd:Pu M P p=0) (hx:0≤(Bz M P p).s∧(Bz M P p).s≤1000) (hp:FS (He M P p) nm=(j:Int)) (hk:(Bz M P p).blk (j / 4)=0) (hbe:bE M P spare=0) (hu:Gs (EM (He M P p) (j:Int) ⟨nm,n⟩) ((j / 4:Nat):Int)=true) (hb:IH (EM (He M P p) (j:Int) ⟨nm,n⟩) ((j / 4:Nat):Int)=some bs) (hbl:bs.length≤64) :
  CallsR prog 102 #[π mx,ν p,.string nm,ν n,ν spare] w (fun v w'=>∃ ta' tc',v=ν (Wq M P p spare j bs)∧Sep w' ([Ab mx 99 [π K.tg],txP K ta' tc' M (Wr M P p spare j bs)]++R)):=by
 have hS:Sep w [Ab mx 99 [π K.tg],txP K ta tc M P,Ch.many R]:=Sep.tail_many (xs:=[_,_]) hS0;clear hS0
 have hss:((Bz M P p).setB (j / 4) (bN M P spare)).s=(Bz M P p).s:=Adi _ _ _
 refine AQ func102 rfl (N:=63) ntmps102 (by show 5≤63;decide) [(0,π mx),(1,ν p),(2,.string nm),(3,ν n),(4,ν spare)] rfl fun _ h1=>sqr fun _ hK3=>mv h1 rfl fun _ h4=>wpList_nil<|hK3 _ _<|sqr fun _ hK6=>mvs 2 h4 rfl fun _ h9=>cl h9 rfl (cF func126) (KB (i:=p) hS hM) fun _ v1 w1 r1 h2=>?_
 obtain ⟨rfl,s1⟩:=r1
 refine mvs 4 h2 rfl fun _ h3=>so (wn rfl) fun _ hK1=>AB h3 rfl rfl rfl rfl (z:=[ν 0,ν 0,ν 0,ν 0,ν 0,ν 0,ν 0,ν 0,ν 0,ν 0,ν 0,ν 0,ν 0,ν 0,ν 0]) (fun _=>rfl) s1 fun _ g1 w2 h5 s2 _ _=>hK1 _ _ ?_
 refine so (wn rfl) fun _ hK2=>AB h5 rfl rfl rfl rfl (z:=Aq Bf) (fun _=>rfl) s2 fun _ g2 w3 h6 s3 _ _=>hK2 _ _ ?_
 refine stA h6 s3 1 rfl rfl rfl κ rfl rfl rfl rfl fun _ w4 h7 s4 _=>so (wn rfl) fun _ hK4=>Gq h7 rfl rfl s4 0 rfl (by first | exact Ga _ _ _ | exact Ay) (by first | exact Ga _ _ _ | exact Ay) rfl rfl (cs':=[Ab g2 111 (Aq (He M P p)),Ab g1 25 (Ah (Bz M P p)),Ab mx 99 [π K.tg],txP K ta tc M P,Ch.many R]) rfl fun _ w5 h8 s5 _=>hK4 _ _ ?_
 refine mv h8 rfl fun _ h10=>h10.sn [13,12,11,10,0,1,2,3,4] rfl fun h11=>hK6 _ _<|sq fun _ hK5=>sqr fun _ hK7=>mv h11 rfl fun _ h12=>bv h12 (z:=.bool false) rfl (cNe _ _ _ _ (decide_eq_false ω)) fun _ h13=>h13.sn [24,13,12,11,10,0,1,2,3,4] rfl fun h14=>hK7 _ _<|wcF h14 rfl rfl<|h14.sk [13,12,11,10,0,1,2,3,4] rfl fun h15=>?_
 refine wp_skip<|hK5 _ _<|sqr fun _ hK8=>sw1 h15 rfl (v:=.agg ((Aq (He M P p)).toArray)) (rld h15 rfl rfl (Gf υ111 (s5.get 0 rfl:Blk _ _ _ _) (by first | exact Ga _ _ _ | exact Ay))) fun _ h16=>mv h16 rfl fun _ h17=>cl h17 rfl (cF func127) (Ql s5 (by first | exact Ga _ _ _ | exact Ay) hs hp) fun _ v2 w6 r2 h18=>?_
 obtain ⟨rfl,s6⟩:=r2
 refine mv h18 rfl fun _ h19=>h19.sn [14,13,12,11,10,0,1,2,3,4] rfl fun h20=>hK8 _ _<|sq fun _ hK9=>sqr fun _ hK10=>mv h20 rfl fun _ h21=>bv h21 (z:=.bool false) rfl (cLt _ _ _ _ (decide_eq_false ω)) fun _ h22=>h22.sn [30,14,13,12,11,10,0,1,2,3,4] rfl fun h23=>hK10 _ _<|wcF h23 rfl rfl<|h23.sk [14,13,12,11,10,0,1,2,3,4] rfl fun h24=>?_
 refine wp_skip<|hK9 _ _<|sq fun _ hK11=>sqr fun _ hK12=>mv h24 rfl fun _ h25=>bv h25 (z:=ν ((j / 4:Nat):Int)) rfl (Ab2 _ _ _ (by decide) (YY _) ω ω) fun _ h26=>mv h26 rfl fun _ h27=>h27.sn [15,14,13,12,11,10,0,1,2,3,4] rfl fun h28=>hK12 _ _<|sqr fun _ hK13=>mv h28 rfl fun _ h29=>fav h29 rfl (fQ 3) fun _ h30=>?_
 refine sv1 h30 rfl (v:=.pointer (some ⟨g1,3+(j / 4),none⟩)) (BR h30 rfl rfl rfl (fun w=>LY g1 (j / 4) ω ω w)) fun _ h31=>sw1 h31 rfl (v:=ν ((Bz M P p).blk (j / 4))) (rld h31 rfl rfl (ldB υ3 rfl (s6.get 1 rfl:Blk _ _ _ _) (DY (Bz M P p) ω))) fun _ h32=>bv h32 (z:=.bool true) rfl (cEq _ _ _ _ (decide_eq_true ω)) fun _ h33=>h33.sn [37,15,14,13,12,11,10,0,1,2,3,4] rfl fun h34=>hK13 _ _<|wcT h34 rfl rfl<|h34.sk [15,14,13,12,11,10,0,1,2,3,4] rfl fun h35=>sqr fun _ hK14=>mvs 3 h35 rfl fun _ h36=>cl h36 rfl (cF func13) (Zv (spare:=spare) (s6.pk [2,3,0,1,4] rfl) hM ω) fun _ v3 w7 r3 h37=>?_
 obtain ⟨tax117,tcx118,rfl,s7⟩:=r3
 refine mvs 3 h37 rfl fun _ h38=>fav h38 rfl (fQ 3) fun _ h39=>sv1 h39 rfl (v:=.pointer (some ⟨g1,3+(j / 4),none⟩)) (BR h39 rfl rfl rfl (fun w=>LY g1 (j / 4) ω ω w)) fun _ h40=>so (wn rfl) fun _ hK15=>Id h40 rfl rfl s7 3 rfl rfl rfl [ν (bN M P spare)] rfl κ rfl (by show 3+(j / 4)+1≤15;omega) (L':=Ah ((Bz M P p).setB (j / 4) (bN M P spare))) (NH (Bz M P p) ω) (cs':=[Ab mx 99 [π K.tg],txP K tax117 tcx118 M (bP M P spare),Ab g2 111 (Aq (He M P p)),Ab g1 25 (Ah ((Bz M P p).setB (j / 4) (bN M P spare))),Ch.many R]) rfl fun _ w8 h41 s8 _=>hK15 _ _ ?_
 refine h41.sk [46,45,44,43,38,42,41,40,39,15,14,12,11,10,0,1,2,3,4] rfl fun h42=>mv h42 rfl fun _ h43=>h43.sn [13,15,14,12,11,10,0,1,2,3,4] rfl fun h44=>hK14 _ _<|sqr fun _ hK16=>mv h44 rfl fun _ h45=>bv h45 (z:=.bool false) rfl (cNe _ _ _ _ (decide_eq_false ω)) fun _ h46=>h46.sn [48,13,15,14,12,11,10,0,1,2,3,4] rfl fun h47=>hK16 _ _<|wcF h47 rfl rfl ?_
 refine h47.sk [13,15,14,12,11,10,0,1,2,3,4] rfl fun h48=>wp_skip<|hK11 _ _<|sqr fun _ hK17=>fav h48 rfl (fQ 2) fun _ h49=>ldv h49 s8 3 υ3 rfl rfl rfl rfl fun _ h50=>bv h50 (z:=ν (((Bz M P p).setB (j / 4) (bN M P spare)).s+1)) rfl (ES _ _ _ ω ω ω) fun _ h51=>fav h51 rfl (fQ 2) fun _ h52=>st1 h52 s8 3 rfl rfl κ rfl rfl rfl rfl fun _ w9 h53 s9 _=>h53.sn [13,15,14,12,11,10,0,1,2,3,4] rfl fun h54=>hK17 _ _ ?_
 refine sqr fun _ hK18=>mvs 2 h54 rfl fun _ h55=>sw1 h55 rfl (v:=.agg (Ah (⟨((Bz M P p).setB (j / 4) (bN M P spare)).k,((Bz M P p).setB (j / 4) (bN M P spare)).l,((Bz M P p).setB (j / 4) (bN M P spare)).s+1,((Bz M P p).setB (j / 4) (bN M P spare)).b0,((Bz M P p).setB (j / 4) (bN M P spare)).b1,((Bz M P p).setB (j / 4) (bN M P spare)).b2,((Bz M P p).setB (j / 4) (bN M P spare)).b3,((Bz M P p).setB (j / 4) (bN M P spare)).o0,((Bz M P p).setB (j / 4) (bN M P spare)).o1,((Bz M P p).setB (j / 4) (bN M P spare)).o2,((Bz M P p).setB (j / 4) (bN M P spare)).o3,((Bz M P p).setB (j / 4) (bN M P spare)).o4,((Bz M P p).setB (j / 4) (bN M P spare)).o5,((Bz M P p).setB (j / 4) (bN M P spare)).o6,((Bz M P p).setB (j / 4) (bN M P spare)).o7⟩:InoT)).toArray) (rld h55 rfl rfl (ldA υ25 rfl (n:=15) κ (s9.get 3 rfl:Blk _ _ _ _) rfl rfl)) fun _ h56=>sw1 h56 rfl (v:=.agg ((Aq (He M P p)).toArray)) (rld h56 rfl rfl (Gf υ111 (s9.get 2 rfl:Blk _ _ _ _) (by first | exact Ga _ _ _ | exact Ay))) fun _ h57=>mvs 3 h57 rfl fun _ h58=>bu h58 (v:=.agg #[.string nm,ν n]) rfl (fun w=>κ) fun _ h59=>cl h59 rfl (cF func128) (SN (x:=(⟨((Bz M P p).setB (j / 4) (bN M P spare)).k,((Bz M P p).setB (j / 4) (bN M P spare)).l,((Bz M P p).setB (j / 4) (bN M P spare)).s+1,((Bz M P p).setB (j / 4) (bN M P spare)).b0,((Bz M P p).setB (j / 4) (bN M P spare)).b1,((Bz M P p).setB (j / 4) (bN M P spare)).b2,((Bz M P p).setB (j / 4) (bN M P spare)).b3,((Bz M P p).setB (j / 4) (bN M P spare)).o0,((Bz M P p).setB (j / 4) (bN M P spare)).o1,((Bz M P p).setB (j / 4) (bN M P spare)).o2,((Bz M P p).setB (j / 4) (bN M P spare)).o3,((Bz M P p).setB (j / 4) (bN M P spare)).o4,((Bz M P p).setB (j / 4) (bN M P spare)).o5,((Bz M P p).setB (j / 4) (bN M P spare)).o6,((Bz M P p).setB (j / 4) (bN M P spare)).o7⟩:InoT)) (t:=(He M P p)) (nm:=nm) (n:=n) s9 hM (by first | exact Ga _ _ _ | exact Ay) hj hu hb hbl) fun _ v4 w10 r4 h60=>?_
 obtain ⟨tax186,tcx187,rfl,s10⟩:=r4
 refine h60.sk [62,61,60,59,58,57,56,55,54,13,15,14,12,11,0,1,2,3,4] rfl fun h61=>mv h61 rfl fun _ h62=>h62.sn [10,13,15,14,12,11,0,1,2,3,4] rfl fun h63=>hK18 _ _<|wp_ret ?_
 try simp only [Exit.then,Exit.inBlock]
 refine Bg (v:=ν (UI M (bP M P spare) p (⟨((Bz M P p).setB (j / 4) (bN M P spare)).k,((Bz M P p).setB (j / 4) (bN M P spare)).l,((Bz M P p).setB (j / 4) (bN M P spare)).s+1,((Bz M P p).setB (j / 4) (bN M P spare)).b0,((Bz M P p).setB (j / 4) (bN M P spare)).b1,((Bz M P p).setB (j / 4) (bN M P spare)).b2,((Bz M P p).setB (j / 4) (bN M P spare)).b3,((Bz M P p).setB (j / 4) (bN M P spare)).o0,((Bz M P p).setB (j / 4) (bN M P spare)).o1,((Bz M P p).setB (j / 4) (bN M P spare)).o2,((Bz M P p).setB (j / 4) (bN M P spare)).o3,((Bz M P p).setB (j / 4) (bN M P spare)).o4,((Bz M P p).setB (j / 4) (bN M P spare)).o5,((Bz M P p).setB (j / 4) (bN M P spare)).o6,((Bz M P p).setB (j / 4) (bN M P spare)).o7⟩:InoT) j bs)) (Cl h63 rfl rfl) h63.defs ?_
 exact ⟨tax186,tcx187,rfl,Sep.tail_un (xs:=[_,_]) (s10.pk [0,1,4] rfl)⟩
theorem Nx {w:World} {R:List Ch} {mx:Nat} {K:VolK} {ta:Ω} {tc:Nat} {M:MemM} {P:List PtM} {p n spare E:Int} {x:InoT} {nm:ByteArray} {P2:List PtM} (hS0:Sep w ([Ab mx 99 [π K.tg],txP K ta tc M P]++R)) (hM:M.V.length=23168) (hnn:Hq M P=(n,0)) (hadd:∀ {w:World} {R:List Ch} {ta:Ω} {tc:Nat},Sep w ([Ab mx 99 [π K.tg],txP K ta tc M (Br M P n x)]++R)→CallsR prog 102 #[π mx,ν p,.string nm,ν n,ν spare] w (fun v w'=>∃ ta' tc',v=ν E∧Sep w' ([Ab mx 99 [π K.tg],txP K ta' tc' M P2]++R))) (hE:AH [Bj M P n x,E]=0) :
  CallsR prog 68 #[π mx,ν p,.string nm,.agg (Ah x).toArray,ν spare] w (fun v w'=>∃ ta' tc',v=.tuple #[ν n,ν 0]∧Sep w' ([Ab mx 99 [π K.tg],txP K ta' tc' M P2]++R)):=by
 have hS:Sep w [Ab mx 99 [π K.tg],txP K ta tc M P,Ch.many R]:=Sep.tail_many (xs:=[_,_]) hS0;clear hS0
 refine AQ func68 rfl (N:=39) ntmps68 (by show 5≤39;decide) [(0,π mx),(1,ν p),(2,.string nm),(3,.agg (Ah x).toArray),(4,ν spare)] rfl fun _ h1=>sqr fun _ hK3=>so (wn rfl) fun _ hK1=>FV h1 rfl rfl rfl rfl rfl (z:=(Ah x)) rfl hS fun _ g4 w7 h5 s8 _ _=>hK1 _ _ ?_
 refine mvs 2 h5 rfl fun _ h2=>wpList_nil<|hK3 _ _<|sqr fun _ hK2=>mv h2 rfl fun _ h3=>cl h3 rfl (cF func101) (Sg (s8.pk [1,2,0,3] rfl) hM hnn) fun _ v1 w1 r1 h4=>?_
 obtain ⟨rfl,s1⟩:=r1
 refine mvs 5 h4 rfl fun _ h6=>h6.sn [13,12,11,10,8,0,1,2,3,4] rfl fun h7=>hK2 _ _<|sq fun _ hK4=>sqr fun _ hK5=>mv h7 rfl fun _ h8=>bv h8 (z:=.bool false) rfl (cNe _ _ _ _ rfl) fun _ h9=>h9.sn [21,13,12,11,10,8,0,1,2,3,4] rfl fun h10=>hK5 _ _<|wcF h10 rfl rfl<|h10.sk [13,12,11,10,8,0,1,2,3,4] rfl fun h11=>?_
 refine wp_skip<|hK4 _ _<|sq fun _ hK6=>sqr fun _ hK7=>mvs 2 h11 rfl fun _ h12=>sw1 h12 rfl (v:=.agg (Ah x).toArray) (rld h12 rfl rfl (ldA υ25 rfl (n:=15) κ (s1.get 2 rfl:Blk _ _ _ _) rfl rfl)) fun _ h13=>cl h13 rfl (cF func9) (CF (i:=n) (x:=x) s1 hM) fun _ v2 w2 r2 h14=>?_
 obtain ⟨tax53,tcx54,rfl,s2⟩:=r2
 refine mvs 5 h14 rfl fun _ h15=>cl h15 rfl (cF func102) (hadd s2) fun _ v3 w3 r3 h16=>?_
 obtain ⟨tax72,tcx73,rfl,s3⟩:=r3
 refine so (wn rfl) fun _ hK8=>CH h16 rfl rfl rfl (E:=31) (xs:=[(0,.tmp 26),(1,.tmp 32)]) rfl (vs:=[(0,ν (Bj M P n x)),(1,ν E)]) rfl (z:=[ν (Bj M P n x),ν E]) (fun _=>κ) s3 fun _ g1 w4 h17 s4 _ _=>hK8 _ _ ?_
 refine cl h17 rfl (cF func38) (CP (L:=[Bj M P n x,E]) s4 (Nat.le_of_ble_eq_true rfl)) fun _ v4 w5 r4 h18=>?_
 obtain ⟨rfl,s5⟩:=r4
 refine mv h18 rfl fun _ h19=>h19.sn [14,13,12,11,10,8,0,1,2,3,4] rfl fun h20=>hK7 _ _<|sqr fun _ hK9=>mv h20 rfl fun _ h21=>bv h21 (z:=.bool false) rfl (cNe _ _ _ _ (decide_eq_false ω)) fun _ h22=>h22.sn [36,14,13,12,11,10,8,0,1,2,3,4] rfl fun h23=>hK9 _ _<|wcF h23 rfl rfl<|h23.sk [14,13,12,11,10,8,0,1,2,3,4] rfl fun h24=>?_
 refine wp_skip<|hK6 _ _<|sqr fun _ hK10=>mv h24 rfl fun _ h25=>h25.sk [38,14,13,12,11,8,0,1,2,3,4] rfl fun h26=>mv h26 rfl fun _ h27=>h27.sk [10,38,14,13,12,8,0,1,2,3,4] rfl fun h28=>mv h28 rfl fun _ h29=>h29.sn [11,10,14,13,12,8,0,1,2,3,4] rfl fun h30=>hK10 _ _<|wp_ret ?_
 try simp only [Exit.then,Exit.inBlock]
 refine Bg (v:=.tuple #[ν n,ν 0]) (GI h30 rfl rfl rfl) h30.defs ?_
 exact ⟨tax72,tcx73,rfl,Sep.tail_un (xs:=[_,_]) (s5.pk [1,2,4] rfl)⟩
end
section
theorem ZS {M:MemM} (h:M.V.length=23168):inM M 0 23168=true:=by unfold inM;rw [decide_eq_true_iff];omega
theorem Xx {M:MemM} (h:M.V.length=23168):inM M 23168 1=false:=by unfold inM;rw [decide_eq_false_iff_not];omega
def Bc:Λ:=MS 0 0 0 0 0 0
def Eg:Λ:=LU 0
theorem QF:Bc.length≤1000000:=by decide +kernel
theorem Xt:Eg.length≤1000000:=by decide +kernel
theorem Ys {w:World} {R:List Ch} (hS:Sep w R):CallsR prog 48 #[.agg #[ν 0,ν 0,ν 0,ν 0,ν 0,ν 0]] w (fun v w'=>∃ a c,v=.tuple #[.slice a Bc.length c,ν 0]∧Sep w' (BC 0 5 1 a Bc.length c (Bc.map Ac)::R)):=
 Calls.mono (Yr 0 0 0 0 0 0 w) fun e w' ⟨a,c,e1,o,b⟩=>⟨_,e1,a,c,rfl,hS.push b (c:=BC 0 5 1 a Bc.length c (Bc.map Ac)) (Own.low o (Nat.zero_le _)) fun k hk=>(World.ownsRow.lt o k hk).1⟩
theorem Xu {w:World} {R:List Ch} (hS:Sep w R):CallsR prog 49 #[ν 0] w (fun v w'=>∃ a c,v=.tuple #[.slice a Eg.length c,ν 0]∧Sep w' (BC 0 5 1 a Eg.length c (Eg.map Ac)::R)):=
 Calls.mono (Qp 0 w ω) fun e w' ⟨a,c,e1,o,b⟩=>⟨_,e1,a,c,rfl,hS.push b (c:=BC 0 5 1 a Eg.length c (Eg.map Ac)) (Own.low o (Nat.zero_le _)) fun k hk=>(World.ownsRow.lt o k hk).1⟩
def GW:InoT:=⟨2,1,0,0,0,0,0,0,0,0,0,0,0,0,0⟩
def DN (M:MemM) (P:List PtM):Nat→List PtM
 | 0=>Br M P 1 GW
 | k+1=>if k=0 then DN M P k else Br M (DN M P k) ((k+1:Nat):Int) AT
def Oz (M:MemM) (P:List PtM):Nat→Int
 | 0=>Bj M P 1 GW
 | k+1=>if k=0 then Oz M P k else AH [Oz M P k,Bj M (DN M P k) ((k+1:Nat):Int) AT]
theorem Xh {M:MemM} {P:List PtM} {k:Nat} (h:k=0):DN M P (k+1)=DN M P k∧Oz M P (k+1)=Oz M P k:=⟨if_pos h,if_pos h⟩
theorem Xi {M:MemM} {P:List PtM} {k:Nat} (h:k≠0):DN M P (k+1)=Br M (DN M P k) ((k+1:Nat):Int) AT∧Oz M P (k+1)=AH [Oz M P k,Bj M (DN M P k) ((k+1:Nat):Int) AT]:=⟨if_neg h,if_neg h⟩
def Aeu (M:MemM) (P:List PtM):List PtM:=stP M (DN M P 32) 3 0 AD
def DP (M:MemM) (P:List PtM):Nat→List PtM
 | 0=>stP M (Aeu M P) 1 0 Eg
 | k+1=>stP M (stP M (DP M P k) 2 ((k+1:Nat):Int) Bc) 6 ((k+1:Nat):Int) (List.replicate 8 0)
theorem Aek {M:MemM} {P:List PtM} {k:Nat} (h:k=32):stP M (stP M (DN M P k) 3 0 AD) 1 0 Eg=DP M P 0:=by subst h;rfl
def UW (M:MemM) (P:List PtM):Nat→Int
 | 0=>AH [AH [Oz M P 32,stE M (DN M P 32) 3 0 16],0,0,stE M (Aeu M P) 1 0 Eg.length]
 | k+1=>AH [UW M P k,stE M (DP M P k) 2 ((k+1:Nat):Int) Bc.length,stE M (stP M (DP M P k) 2 ((k+1:Nat):Int) Bc) 6 ((k+1:Nat):Int) (List.replicate 8 (0:UInt8)).length]
theorem Vf {w:World} {R:List Ch} {K:VolK} {ta:Ω} {tc:Nat} {M:MemM} {P:List PtM} (hS0:Sep w ([txP K ta tc M P]++R)) (hM:M.V.length=23168)  :
  CallsR prog 21 #[π K.tg] w (fun v w'=>∃ mx,v=π mx∧Sep w' ([Ab mx 99 [π K.tg],txP K ta tc M P]++R)):=by
 have hS:Sep w [txP K ta tc M P,Ch.many R]:=Sep.tail_many (xs:=[_]) hS0;clear hS0
 refine AQ func21 rfl (N:=30) ntmps21 (by show 1≤30;decide) [(0,π K.tg)] rfl fun _ h1=>sqr fun _ hK3=>mv h1 rfl fun _ h4=>wpList_nil<|hK3 _ _<|sq fun _ hK6=>sqr fun _ hK7=>mv h4 rfl fun _ h8=>bv h8 (z:=.bool false) rfl (Rd _ υ34 _ _ _) fun _ h2=>h2.sn [8,2,0] rfl fun h3=>hK7 _ _<|wcF h3 rfl rfl ?_
 refine h3.sk [2,0] rfl fun h5=>wp_skip<|hK6 _ _<|sqr fun _ hK1=>mv h5 rfl fun _ h6=>cl h6 rfl (cF func47) (Bh hS (Oa _)) fun _ v1 w1 r1 h7=>?_
 obtain ⟨rfl,s1⟩:=r1
 refine cl h7 rfl (cF func46) (XG (at_:=0) (n:=23168) s1 (ZS hM) (by unfold KY;omega) (by unfold KY;omega)) fun _ v2 w2 r2 h9=>?_
 obtain ⟨ra_x24,rc_x25,rfl,s2⟩:=r2
 refine mvs 5 h9 rfl fun _ h10=>h10.sn [4,2,0] rfl fun h11=>hK1 _ _<|sqr fun _ hK2=>mv h11 rfl fun _ h12=>cl h12 rfl (cF func47) (Bh s2 (Oa _)) fun _ v3 w3 r3 h13=>?_
 obtain ⟨rfl,s3⟩:=r3
 refine cl h13 rfl (cF func46) (XH (at_:=23168) (n:=1) (s3.pk [1,0,2] rfl) (Xx hM) (by unfold KY;omega) (by unfold KY;omega)) fun _ v4 w4 r4 h14=>?_
 obtain ⟨rfl,s4⟩:=r4
 refine mvs 5 h14 rfl fun _ h15=>h15.sn [6,4,2,0] rfl fun h16=>hK2 _ _<|sq fun _ hK4=>sqr fun _ hK5=>mv h16 rfl fun _ h17=>bv h17 (z:=.bool false) rfl (cNe _ _ _ _ rfl) fun _ h18=>mv h18 rfl fun _ h19=>sv h19 (wF h19 (E:=false) rfl rfl rfl) rfl rfl rfl (Ad h19 rfl rfl) fun _ h20=>sv h20 (wF h20 (E:=false) rfl rfl rfl) rfl rfl rfl (Aw h20 rfl rfl rfl (cEq _ _ _ _ rfl)) fun _ h21=>sv1 h21 rfl (Az h21 rfl rfl rfl) fun _ h22=>?_
 refine h22.sn [26,6,4,2,0] rfl fun h23=>hK5 _ _<|wcF h23 rfl rfl<|h23.sk [6,4,2,0] rfl fun h24=>wp_skip<|hK4 _ _<|sqr fun _ hK8=>mv h24 rfl fun _ h25=>bu h25 (v:=.agg #[π K.tg]) rfl (fun w=>κ) fun _ h26=>so (wn rfl) fun _ hK9=>FV h26 rfl rfl rfl rfl rfl (z:=[π K.tg]) rfl s4 fun _ g1 w5 h27 s5 _ _=>hK9 _ _ ?_
 refine h27.sk [29,28,27,6,4,0] rfl fun h28=>mv h28 rfl fun _ h29=>h29.sn [2,6,4,0] rfl fun h30=>hK8 _ _<|wp_ret ?_
 try simp only [Exit.then,Exit.inBlock]
 refine Bg (v:=π g1) (Cl h30 rfl rfl) h30.defs ?_
 exact ⟨g1,rfl,Sep.tail_un (xs:=[_,_]) (s5.pk [0,1,3] rfl)⟩
theorem Xj {w:World} {R:List Ch} {mx:Nat} {K:VolK} {ta:Ω} {tc:Nat} {M:MemM} {P:List PtM} (hS0:Sep w ([Ab mx 99 [π K.tg],txP K ta tc M P]++R)) (hM:M.V.length=23168)  :
  CallsR prog 22 #[π mx] w (fun v w'=>∃ ta' tc',v=ν (UW M P 8)∧Sep w' ([Ab mx 99 [π K.tg],txP K ta' tc' M (DP M P 8)]++R)):=by
 have hS:Sep w [Ab mx 99 [π K.tg],txP K ta tc M P,Ch.many R]:=Sep.tail_many (xs:=[_,_]) hS0;clear hS0
 refine AQ func22 rfl (N:=69) ntmps22 (by show 1≤69;decide) [(0,π mx)] rfl fun _ h1=>sqr fun _ hK3=>mv h1 rfl fun _ h4=>wpList_nil<|hK3 _ _<|sqr fun _ hK6=>mv h4 rfl fun _ h7=>bu h7 (v:=.agg (Ah (⟨2,1,0,0,0,0,0,0,0,0,0,0,0,0,0⟩:InoT)).toArray) rfl (fun w=>κ) fun _ h9=>cl h9 rfl (cF func9) (CF (i:=1) (x:=(⟨2,1,0,0,0,0,0,0,0,0,0,0,0,0,0⟩:InoT)) hS hM) fun _ v1 w2 r1 h2=>?_
 obtain ⟨tax11,tcx12,rfl,s1⟩:=r1
 refine mv h2 rfl fun _ h3=>h3.sn [3,2,0] rfl fun h5=>hK6 _ _<|sq fun _ hK1=>sqr fun _ hK2=>mv h5 rfl fun _ h6=>wpList_nil<|hK2 _ _<|wp_block ?_
 refine Nc (fun (k:Nat) (er:Int) (ta2:Ω) (tc2:Nat) a' w'=>Kn 69 [(13,ν (k:Int)),(3,ν er),(2,ν 0),(0,π mx)] a'∧Sep w' [Ab mx 99 [π K.tg],txP K ta2 tc2 M (DN M P k),Ch.many R]∧(k≤32)∧(er=Oz M P k)) (fun (k:Nat) (er:Int) (ta2:Ω) (tc2:Nat)=>32-k) 0 (Bj M P 1 (⟨2,1,0,0,0,0,0,0,0,0,0,0,0,0,0⟩:InoT)) tax11 tcx12 ⟨h6.subs rfl,(show Sep _ [Ab mx 99 [π K.tg],txP K tax11 tcx12 M (DN M P 0),Ch.many R] from s1),Nat.zero_le _,rfl⟩ ?_
 rintro k1 er35 ta236 tc237 a1 w3 ⟨h8,s2,hk32,he33⟩ K1 hK4
 refine sqr fun _ hK5=>bv h8 (z:=.bool (decide ((k1:Int)<32))) rfl (cLt _ _ _ _ rfl) fun _ h10=>wpList_nil<|hK5 _ _<|sq fun _ hK7=>?_
 rcases bC (decide ((k1:Int)<32)) with hc1 | hc1
 ·skip
  have hp1:(k1:Int)<32:=(dT hc1)
  refine wcT h10 rfl hc1<|h10.sk [13,3,2,0] rfl fun h11=>wp_skip<|hK7 _ _<|sq fun _ hK8=>wp_block ?_
  refine sqr fun _ hK9=>mvs 2 h11 rfl fun _ h12=>h12.sn [4,13,3,2,0] rfl fun h13=>hK9 _ _<|sqr fun _ hK10=>mv h13 rfl fun _ h14=>bv h14 (z:=ν ((k1+1:Nat):Int)) rfl (ES _ _ _ ω ω ω) fun _ h15=>bv h15 (z:=.bool (decide (((k1+1:Nat):Int)≠1))) rfl (cNe _ _ _ _ rfl) fun _ h16=>h16.sn [18,4,13,3,2,0] rfl fun h17=>hK10 _ _ ?_
  rcases bC (decide (((k1+1:Nat):Int)≠1)) with hc2 | hc2
  ·skip
   have hp2:((k1+1:Nat):Int)≠1:=(dT hc2)
   refine wcT h17 rfl hc2<|h17.sk [4,13,3,2,0] rfl fun h18=>wp_region_lit<|mvs 3 h18 rfl fun _ h19=>bv h19 (z:=ν ((k1+1:Nat):Int)) rfl (ES _ _ _ ω ω ω) fun _ h20=>bu h20 (v:=.agg (Ah AT).toArray) rfl (fun w=>κ) fun _ h21=>cl h21 rfl (cF func9) (CF (i:=((k1+1:Nat):Int)) (x:=AT) s2 hM) fun _ v2 w4 r2 h22=>?_
   obtain ⟨tax73,tcx74,rfl,s3⟩:=r2
   refine so (wn rfl) fun _ hK11=>CH h22 rfl rfl rfl (E:=31) (xs:=[(0,.tmp 19),(1,.tmp 24)]) rfl (vs:=[(0,ν er35),(1,ν (Bj M (DN M P k1) ((k1+1:Nat):Int) AT))]) rfl (z:=[ν er35,ν (Bj M (DN M P k1) ((k1+1:Nat):Int) AT)]) (fun _=>κ) s3 fun _ g1 w5 h23 s4 _ _=>hK11 _ _ ?_
   refine cl h23 rfl (cF func38) (CP (L:=[er35,Bj M (DN M P k1) ((k1+1:Nat):Int) AT]) s4 (Nat.le_of_ble_eq_true rfl)) fun _ v3 w6 r3 h24=>?_
   obtain ⟨rfl,s5⟩:=r3
   refine h24.sk [26,25,24,23,22,21,20,19,4,13,2,0] rfl fun h25=>mv h25 rfl fun _ h26=>h26.sn [3,4,13,2,0] rfl fun h27=>hK8 _ _<|wp_region_lit<|bv h27 (z:=ν ((k1+1:Nat):Int)) rfl (ES _ _ _ ω ω ω) fun _ h28=>h28.sk [27,3,4,2,0] rfl fun h29=>mv h29 rfl fun _ h30=>h30.sk [13,3,4,2,0] rfl fun h31=>wpList_nil ?_
   have hf9:=Xi (M:=M) (P:=P) (k:=k1) ω
   exact hK4 (k1+1) (AH [er35,Bj M (DN M P k1) ((k1+1:Nat):Int) AT]) tax73 tcx74 _ _ ⟨h31.subs rfl,(by rw [hf9.1];exact (s5.pk [1,2,3] rfl)),ω,(by rw [hf9.2,he33])⟩ ω
  ·skip
   have hp3:¬ (((k1+1:Nat):Int)≠1):=(dF hc2)
   refine wcF h17 rfl hc2<|h17.sk [4,13,3,2,0] rfl fun h32=>wp_skip<|hK8 _ _<|wp_region_lit<|bv h32 (z:=ν ((k1+1:Nat):Int)) rfl (ES _ _ _ ω ω ω) fun _ h33=>h33.sk [27,4,3,2,0] rfl fun h34=>mv h34 rfl fun _ h35=>h35.sk [13,4,3,2,0] rfl fun h36=>wpList_nil ?_
   have hf9:=Xh (M:=M) (P:=P) (k:=k1) ω
   exact hK4 (k1+1) er35 ta236 tc237 _ _ ⟨h36.subs rfl,(by rw [hf9.1];exact s2),ω,(by rw [hf9.2,he33])⟩ ω
 ·skip
  have hp4:¬ ((k1:Int)<32):=(dF hc1)
  refine wcF h10 rfl hc1<|h10.sk [13,3,2,0] rfl fun h37=>wp_exit ?_
  refine hK1 _ _ ?_
  refine sqr fun _ hK12=>mvs 2 h37 rfl fun _ h38=>bu h38 (v:=.agg (Af AD)) rfl (fun w=>κ) fun _ h39=>cl h39 rfl (cF func10) (Fr (xs:=AD) s2 hM (AZ _ (by first | rfl | decide))) fun _ v4 w7 r4 h40=>?_
  obtain ⟨tax124,tcx125,rfl,s6⟩:=r4
  refine so (wn rfl) fun _ hK13=>CH h40 rfl rfl rfl (E:=31) (xs:=[(0,.tmp 28),(1,.tmp 31)]) rfl (vs:=[(0,ν er35),(1,ν (stE M (DN M P k1) 3 0 16))]) rfl (z:=[ν er35,ν (stE M (DN M P k1) 3 0 16)]) (fun _=>κ) s6 fun _ g2 w8 h41 s7 _ _=>hK13 _ _ ?_
  refine cl h41 rfl (cF func38) (CP (L:=[er35,stE M (DN M P k1) 3 0 16]) s7 (Nat.le_of_ble_eq_true rfl)) fun _ v5 w9 r5 h42=>?_
  obtain ⟨rfl,s8⟩:=r5
  refine h42.sk [33,32,31,30,29,28,13,2,0] rfl fun h43=>mv h43 rfl fun _ h44=>h44.sn [3,13,2,0] rfl fun h45=>hK12 _ _<|sqr fun _ hK14=>bu h45 (v:=.agg #[ν 0,ν 0,ν 0,ν 0,ν 0,ν 0]) rfl (fun w=>κ) fun _ h46=>cl h46 rfl (cF func48) (Ys s8) fun _ v6 w10 r6 h47=>?_
  obtain ⟨pa_x155,pc_x156,rfl,s9⟩:=r6
  refine mvs 5 h47 rfl fun _ h48=>h48.sn [6,5,3,13,2,0] rfl fun h49=>hK14 _ _<|sqr fun _ hK15=>cl h49 rfl (cF func49) (Xu s9) fun _ v7 w11 r7 h50=>?_
  obtain ⟨pa_x176,pc_x177,rfl,s10⟩:=r7
  refine mvs 5 h50 rfl fun _ h51=>h51.sn [8,7,6,5,3,13,2,0] rfl fun h52=>hK15 _ _<|sqr fun _ hK16=>mvs 5 h52 rfl fun _ h53=>cl h53 rfl (cF func30) (CX (kd:=1) (nm:=0) (xs:=Eg) (s10.pk [0,3,4,1,2,5] rfl) hM Xt) fun _ v8 w12 r8 h54=>?_
  obtain ⟨tax207,tcx208,rfl,s11⟩:=r8
  refine so (wn rfl) fun _ hK17=>CH h54 rfl rfl rfl (E:=31) (xs:=[(0,.tmp 43),(1,.tmp 44),(2,.tmp 45),(3,.tmp 48)]) rfl (vs:=[(0,ν (AH [er35,stE M (DN M P k1) 3 0 16])),(1,ν 0),(2,ν 0),(3,ν (stE M (stP M (DN M P k1) 3 0 AD) 1 0 Eg.length))]) rfl (z:=[ν (AH [er35,stE M (DN M P k1) 3 0 16]),ν 0,ν 0,ν (stE M (stP M (DN M P k1) 3 0 AD) 1 0 Eg.length)]) (fun _=>κ) s11 fun _ g3 w13 h55 s12 _ _=>hK17 _ _ ?_
  refine cl h55 rfl (cF func38) (CP (L:=[AH [er35,stE M (DN M P k1) 3 0 16],0,0,stE M (stP M (DN M P k1) 3 0 AD) 1 0 Eg.length]) s12 (Nat.le_of_ble_eq_true rfl)) fun _ v9 w14 r9 h56=>?_
  obtain ⟨rfl,s13⟩:=r9
  refine h56.sk [50,49,48,47,46,45,44,43,8,7,6,5,13,2,0] rfl fun h57=>mv h57 rfl fun _ h58=>h58.sn [3,8,7,6,5,13,2,0] rfl fun h59=>hK16 _ _<|sq fun _ hK18=>sqr fun _ hK19=>mv h59 rfl fun _ h60=>wpList_nil<|hK19 _ _<|wp_block ?_
  have hk9:k1=32:=ω
  refine Nc (fun (k:Nat) (er:Int) (ta2:Ω) (tc2:Nat) a' w'=>Kn 69 [(51,ν (k:Int)),(3,ν er),(8,ν 0),(7,.slice pa_x176 Eg.length pc_x177),(6,ν 0),(5,.slice pa_x155 Bc.length pc_x156),(13,ν (k1:Int)),(2,ν 0),(0,π mx)] a'∧Sep w' [BC 0 5 1 pa_x155 (Bc).length pc_x156 ((Bc).map Ac),Ab mx 99 [π K.tg],txP K ta2 tc2 M (DP M P k),Ch.many R]∧(k≤8)∧(er=UW M P k)) (fun (k:Nat) (er:Int) (ta2:Ω) (tc2:Nat)=>8-k) 0 (AH [AH [er35,stE M (DN M P k1) 3 0 16],0,0,stE M (stP M (DN M P k1) 3 0 AD) 1 0 Eg.length]) tax207 tcx208 ⟨h60.subs rfl,(show Sep _ [BC 0 5 1 pa_x155 (Bc).length pc_x156 ((Bc).map Ac),Ab mx 99 [π K.tg],txP K tax207 tcx208 M (DP M P 0),Ch.many R] from by have z9:=(s13.pk [4,2,3,6] rfl);rw [Aek hk9] at z9;exact z9),Nat.zero_le _,(by rw [he33,hk9];rfl)⟩ ?_
  rintro k2 er247 ta2248 tc2249 a2 w15 ⟨h61,s14,hk244,he2245⟩ K2 hK20
  refine sqr fun _ hK21=>bv h61 (z:=.bool (decide ((k2:Int)<8))) rfl (cLt _ _ _ _ rfl) fun _ h62=>wpList_nil<|hK21 _ _<|sq fun _ hK22=>?_
  rcases bC (decide ((k2:Int)<8)) with hc3 | hc3
  ·skip
   have hp5:(k2:Int)<8:=(dT hc3)
   refine wcT h62 rfl hc3<|h62.sk [51,3,8,7,6,5,13,2,0] rfl fun h63=>wp_skip<|hK22 _ _<|sq fun _ hK23=>wp_block ?_
   refine sqr fun _ hK24=>mvs 2 h63 rfl fun _ h64=>h64.sn [9,51,3,8,7,6,5,13,2,0] rfl fun h65=>hK24 _ _ ?_
   have s15:=s14.drew
   refine wp_region_held_drew (S:=fun w'=>Sep w' [BC 0 5 1 pa_x155 (Bc).length pc_x156 ((Bc).map Ac),Ab mx 99 [π K.tg],Ch.many R]) κ (s15.pk [0,1,3] rfl) (fun hq1=>?_)
   refine tv1 hq1 h65 0 rfl rfl (fun w1 _=>(Ad h65 rfl rfl) w1) fun _ h66=>?_
   refine tv1 hq1 h66 1 rfl rfl (fun w1 _=>(Ad h66 rfl rfl) w1) fun _ h67=>?_
   refine tv1 hq1 h67 2 rfl rfl (fun w1 _=>(Ad h67 rfl rfl) w1) fun _ h68=>?_
   refine tv1 hq1 h68 3 rfl rfl (v:=ν ((k2+1:Nat):Int)) (fun w1 _=>(Aw h68 rfl rfl rfl (ES _ _ _ ω ω ω)) w1) fun _ h69=>?_
   refine tv1 hq1 h69 4 rfl rfl (fun w1 _=>(Ad h69 rfl rfl) w1) fun _ h70=>?_
   refine tv1 hq1 h70 6 rfl rfl (fun w1 _=>(Ad h70 rfl rfl) w1) fun _ h71=>?_
   refine tv1 hq1 h71 7 rfl rfl (fun w1 _=>(Ad h71 rfl rfl) w1) fun _ h72=>?_
   refine tv1 hq1 h72 8 rfl rfl (v:=ν ((k2+1:Nat):Int)) (fun w1 _=>(Aw h72 rfl rfl rfl (ES _ _ _ ω ω ω)) w1) fun _ h73=>?_
   refine wpAnyH_ready (rs:=[5,9]) κ (by simp) (toc rfl (wn rfl) (fun K3 hK25=>?_) (toc rfl (wn rfl) (fun K3 hK25=>?_) AllReadyH.nil))
   ·skip
    refine AJ h73 rfl rfl rfl (xs:=[.tmp 55,.const (ν 2),.tmp 57,.tmp 58]) rfl (cF func30) rfl (vs:=[π mx,ν 2,ν ((k2+1:Nat):Int),.slice pa_x155 Bc.length pc_x156]) rfl (args:=#[π mx,ν 2,ν ((k2+1:Nat):Int),.slice pa_x155 Bc.length pc_x156]) rfl (CX (kd:=2) (nm:=((k2+1:Nat):Int)) (xs:=Bc) s15 hM QF) fun _ v10 w16 r10 h74=>?_
    obtain ⟨tax284,tcx285,rfl,s16⟩:=r10
    refine hK25 _ _ (s16.pk [0,1,3] rfl) fun hq2=>?_
    refine to_ 9 rfl (wn rfl) κ fun _ hK26=>Ng FZ (by decide) h74 rfl rfl rfl rfl υ52 (z:=.int .u8 0) (n:=8) κ (m:=(0:UInt8)) rfl rfl rfl (by decide) s16 fun _ g4 w17 h75 s17 _ _=>?_
    refine hK26 _ _ (s17.pk [1,2,4] rfl) fun hq3=>?_
    have s18:Sep _ [BC 0 5 1 (some ⟨g4,0,none⟩) ((List.replicate 8 (0:UInt8))).length 8 (((List.replicate 8 (0:UInt8))).map Ac),BC 0 5 1 pa_x155 (Bc).length pc_x156 ((Bc).map Ac),Ab mx 99 [π K.tg],txP K tax284 tcx285 M (stP M (DP M P k2) 2 ((k2+1:Nat):Int) Bc),Ch.many R]:=FX s17
    refine to_ 10 rfl (wn rfl) κ fun _ hK27=>AJ h75 rfl rfl rfl (xs:=[.tmp 60,.const (ν 6),.tmp 62,.tmp 63]) rfl (cF func30) rfl (vs:=[π mx,ν 6,ν ((k2+1:Nat):Int),.slice (some ⟨g4,0,none⟩) 8 8]) rfl (args:=#[π mx,ν 6,ν ((k2+1:Nat):Int),.slice (some ⟨g4,0,none⟩) 8 8]) rfl (CX (kd:=6) (nm:=((k2+1:Nat):Int)) (xs:=(List.replicate 8 (0:UInt8))) (s18.pk [0,2,3,1,4] rfl) hM (by simp)) fun _ v11 w18 r11 h76=>?_
    obtain ⟨tax303,tcx304,rfl,s19⟩:=r11
    refine hK27 _ _ (s19.pk [3,1,4] rfl) fun hq4=>?_
    refine to_ 11 rfl (wn rfl) κ fun _ hK28=>CH h76 rfl rfl rfl (E:=31) (xs:=[(0,.tmp 54),(1,.tmp 59),(2,.tmp 64)]) rfl (vs:=[(0,ν er247),(1,ν (stE M (DP M P k2) 2 ((k2+1:Nat):Int) Bc.length)),(2,ν (stE M (stP M (DP M P k2) 2 ((k2+1:Nat):Int) Bc) 6 ((k2+1:Nat):Int) (List.replicate 8 (0:UInt8)).length))]) rfl (z:=[ν er247,ν (stE M (DP M P k2) 2 ((k2+1:Nat):Int) Bc.length),ν (stE M (stP M (DP M P k2) 2 ((k2+1:Nat):Int) Bc) 6 ((k2+1:Nat):Int) (List.replicate 8 (0:UInt8)).length)]) (fun _=>κ) s19 fun _ g5 w19 h77 s20 _ _=>?_
    refine hK28 _ _ (s20.pk [4,2,5] rfl) fun hq5=>?_
    refine to_ 12 rfl (wn rfl) κ fun _ hK29=>AJ h77 rfl rfl rfl (xs:=[.tmp 65]) rfl (cF func38) rfl (vs:=[.slice (some ⟨g5,0,none⟩) 3 3]) rfl (args:=#[.slice (some ⟨g5,0,none⟩) 3 3]) rfl (CP (L:=[er247,stE M (DP M P k2) 2 ((k2+1:Nat):Int) Bc.length,stE M (stP M (DP M P k2) 2 ((k2+1:Nat):Int) Bc) 6 ((k2+1:Nat):Int) (List.replicate 8 (0:UInt8)).length]) s20 (Nat.le_of_ble_eq_true rfl)) fun _ v12 w20 r12 h78=>?_
    obtain ⟨rfl,s21⟩:=r12
    refine hK29 _ _ (s21.pk [4,2,5] rfl) fun hq6=>h78.sk [66,65,64,63,59,62,61,60,58,57,56,55,54,9,51,8,7,6,5,13,2,0] rfl fun h79=>?_
    refine tv1 hq6 h79 13 rfl rfl (fun w1 _=>(AP h79 rfl rfl) w1) fun _ h80=>?_
    refine h80.sk [3,9,51,8,7,6,5,13,2,0] rfl fun h81=>?_
    refine wpAnyH_done κ ?_ _
    refine hK23 _ _ ?_
    refine wp_region_lit<|bv h81 (z:=ν ((k2+1:Nat):Int)) rfl (ES _ _ _ ω ω ω) fun _ h82=>h82.sk [67,3,9,8,7,6,5,13,2,0] rfl fun h83=>mv h83 rfl fun _ h84=>h84.sk [51,3,9,8,7,6,5,13,2,0] rfl fun h85=>wpList_nil ?_
    exact hK20 (k2+1) (AH [er247,stE M (DP M P k2) 2 ((k2+1:Nat):Int) Bc.length,stE M (stP M (DP M P k2) 2 ((k2+1:Nat):Int) Bc) 6 ((k2+1:Nat):Int) (List.replicate 8 (0:UInt8)).length]) tax303 tcx304 _ _ ⟨h85.subs rfl,(show Sep _ [BC 0 5 1 pa_x155 (Bc).length pc_x156 ((Bc).map Ac),Ab mx 99 [π K.tg],txP K tax303 tcx304 M (DP M P (k2+1)),Ch.many R] from (s21.pk [4,2,3,5] rfl)),ω,(by rw [he2245];rfl)⟩ ω
   ·skip
    refine Ng FZ (by decide) h73 rfl rfl rfl rfl υ52 (z:=.int .u8 0) (n:=8) κ (m:=(0:UInt8)) rfl rfl rfl (by decide) s15 fun _ g6 w21 h86 s22 _ _=>hK25 _ _ (s22.pk [1,2,4] rfl) fun hq7=>?_
    refine to_ 5 rfl (wn rfl) κ fun _ hK30=>AJ h86 rfl rfl rfl (xs:=[.tmp 55,.const (ν 2),.tmp 57,.tmp 58]) rfl (cF func30) rfl (vs:=[π mx,ν 2,ν ((k2+1:Nat):Int),.slice pa_x155 Bc.length pc_x156]) rfl (args:=#[π mx,ν 2,ν ((k2+1:Nat):Int),.slice pa_x155 Bc.length pc_x156]) rfl (CX (kd:=2) (nm:=((k2+1:Nat):Int)) (xs:=Bc) (s22.pk [1,2,3,0,4] rfl) hM QF) fun _ v13 w22 r13 h87=>?_
    obtain ⟨tax348,tcx349,rfl,s23⟩:=r13
    refine hK30 _ _ (s23.pk [0,1,4] rfl) fun hq8=>?_
    have s24:Sep _ [BC 0 5 1 (some ⟨g6,0,none⟩) ((List.replicate 8 (0:UInt8))).length 8 (((List.replicate 8 (0:UInt8))).map Ac),BC 0 5 1 pa_x155 (Bc).length pc_x156 ((Bc).map Ac),Ab mx 99 [π K.tg],txP K tax348 tcx349 M (stP M (DP M P k2) 2 ((k2+1:Nat):Int) Bc),Ch.many R]:=FX (s23.pk [3,0,1,2,4] rfl)
    refine to_ 10 rfl (wn rfl) κ fun _ hK31=>AJ h87 rfl rfl rfl (xs:=[.tmp 60,.const (ν 6),.tmp 62,.tmp 63]) rfl (cF func30) rfl (vs:=[π mx,ν 6,ν ((k2+1:Nat):Int),.slice (some ⟨g6,0,none⟩) 8 8]) rfl (args:=#[π mx,ν 6,ν ((k2+1:Nat):Int),.slice (some ⟨g6,0,none⟩) 8 8]) rfl (CX (kd:=6) (nm:=((k2+1:Nat):Int)) (xs:=(List.replicate 8 (0:UInt8))) (s24.pk [0,2,3,1,4] rfl) hM (by simp)) fun _ v14 w23 r14 h88=>?_
    obtain ⟨tax359,tcx360,rfl,s25⟩:=r14
    refine hK31 _ _ (s25.pk [3,1,4] rfl) fun hq9=>?_
    refine to_ 11 rfl (wn rfl) κ fun _ hK32=>CH h88 rfl rfl rfl (E:=31) (xs:=[(0,.tmp 54),(1,.tmp 59),(2,.tmp 64)]) rfl (vs:=[(0,ν er247),(1,ν (stE M (DP M P k2) 2 ((k2+1:Nat):Int) Bc.length)),(2,ν (stE M (stP M (DP M P k2) 2 ((k2+1:Nat):Int) Bc) 6 ((k2+1:Nat):Int) (List.replicate 8 (0:UInt8)).length))]) rfl (z:=[ν er247,ν (stE M (DP M P k2) 2 ((k2+1:Nat):Int) Bc.length),ν (stE M (stP M (DP M P k2) 2 ((k2+1:Nat):Int) Bc) 6 ((k2+1:Nat):Int) (List.replicate 8 (0:UInt8)).length)]) (fun _=>κ) s25 fun _ g7 w24 h89 s26 _ _=>?_
    refine hK32 _ _ (s26.pk [4,2,5] rfl) fun hq10=>?_
    refine to_ 12 rfl (wn rfl) κ fun _ hK33=>AJ h89 rfl rfl rfl (xs:=[.tmp 65]) rfl (cF func38) rfl (vs:=[.slice (some ⟨g7,0,none⟩) 3 3]) rfl (args:=#[.slice (some ⟨g7,0,none⟩) 3 3]) rfl (CP (L:=[er247,stE M (DP M P k2) 2 ((k2+1:Nat):Int) Bc.length,stE M (stP M (DP M P k2) 2 ((k2+1:Nat):Int) Bc) 6 ((k2+1:Nat):Int) (List.replicate 8 (0:UInt8)).length]) s26 (Nat.le_of_ble_eq_true rfl)) fun _ v15 w25 r15 h90=>?_
    obtain ⟨rfl,s27⟩:=r15
    refine hK33 _ _ (s27.pk [4,2,5] rfl) fun hq11=>h90.sk [66,65,64,59,63,62,61,60,58,57,56,55,54,9,51,8,7,6,5,13,2,0] rfl fun h91=>?_
    refine tv1 hq11 h91 13 rfl rfl (fun w1 _=>(AP h91 rfl rfl) w1) fun _ h92=>?_
    refine h92.sk [3,9,51,8,7,6,5,13,2,0] rfl fun h93=>?_
    refine wpAnyH_done κ ?_ _
    refine hK23 _ _ ?_
    refine wp_region_lit<|bv h93 (z:=ν ((k2+1:Nat):Int)) rfl (ES _ _ _ ω ω ω) fun _ h94=>h94.sk [67,3,9,8,7,6,5,13,2,0] rfl fun h95=>mv h95 rfl fun _ h96=>h96.sk [51,3,9,8,7,6,5,13,2,0] rfl fun h97=>wpList_nil ?_
    exact hK20 (k2+1) (AH [er247,stE M (DP M P k2) 2 ((k2+1:Nat):Int) Bc.length,stE M (stP M (DP M P k2) 2 ((k2+1:Nat):Int) Bc) 6 ((k2+1:Nat):Int) (List.replicate 8 (0:UInt8)).length]) tax359 tcx360 _ _ ⟨h97.subs rfl,(show Sep _ [BC 0 5 1 pa_x155 (Bc).length pc_x156 ((Bc).map Ac),Ab mx 99 [π K.tg],txP K tax359 tcx360 M (DP M P (k2+1)),Ch.many R] from (s27.pk [4,2,3,5] rfl)),ω,(by rw [he2245];rfl)⟩ ω
  ·skip
   have hp6:¬ ((k2:Int)<8):=(dF hc3)
   refine wcF h62 rfl hc3<|h62.sk [51,3,8,7,6,5,13,2,0] rfl fun h98=>wp_exit ?_
   refine hK18 _ _ ?_
   refine sqr fun _ hK34=>mv h98 rfl fun _ h99=>h99.sk [68,51,3,8,7,6,5,13,0] rfl fun h100=>mv h100 rfl fun _ h101=>h101.sn [2,51,3,8,7,6,5,13,0] rfl fun h102=>hK34 _ _<|wp_ret ?_
   try simp only [Exit.then,Exit.inBlock]
   refine Bg (v:=ν er247) (Cl h102 rfl rfl) h102.defs ?_
   obtain rfl:k2=8:=ω
   exact ⟨ta2248,tc2249,by rw [he2245],Sep.tail_un (xs:=[_,_]) (s14.pk [1,2,3] rfl)⟩
end
end Go.Proofs.YthiplgahhejmcaaGreatDoor
