/- Parts of the proof. -/
import Derived.Test.YtcanemamnmmbcaaGreatDoorQal
namespace Go.Proofs.YtcanemamnmmbcaaGreatDoor
open Go.RowKit
set_option linter.unusedSimpArgs false
set_option linter.unusedVariables false
set_option linter.unusedSectionVars false
set_option maxRecDepth 100000
set_option maxHeartbeats 8000000
section
def tF (F:FsM) (n:Nat) (r:RowM) (k:Nat) (V:List Nat):List RowM:=(Dv F n r k ([],V)).1
def vF (F:FsM) (n:Nat) (r:RowM) (k:Nat) (V:List Nat):List Nat:=(Dv F n r k ([],V)).2
def tL (F:FsM) (n:Nat) (r:RowM) (k:Nat) (X:List ByteArray) (V:List Nat):List RowM:=(addL F n r k X ([],V)).1
def vL (F:FsM) (n:Nat) (r:RowM) (k:Nat) (X:List ByteArray) (V:List Nat):List Nat:=(addL F n r k X ([],V)).2
theorem Ge {F:FsM} {n:Nat} (h:∀ r k s,Dv F n r k s=(s.1++tF F n r k s.2,vF F n r k s.2)) (r:RowM) (k:Nat):∀ (X:List ByteArray) (s:Rows),addL F n r k X s=(s.1++tL F n r k X s.2,vL F n r k X s.2)
  | [],s=>by show s=(s.1++[],s.2);rw [List.append_nil]
  | x::X,s=>by
    have e1:addL F n r k (x::X) s=addL F n r k X (Dv F n (Fu r x) (Au F k x) s):=rfl
    have e2:addL F n r k (x::X) ([],s.2)=addL F n r k X (Dv F n (Fu r x) (Au F k x) ([],s.2)):=rfl
    unfold tL vL
    rw [e1,e2,h,h _ _ ([],s.2),Ge h r k X,Ge h r k X (_,_)]
    simp
theorem GV (F:FsM):∀ (n:Nat) (r:RowM) (k:Nat) (s:Rows),Dv F n r k s=(s.1++tF F n r k s.2,vF F n r k s.2)
  | 0,r,k,s=>by
    show Cu F r k s=(s.1++(Cu F r k ([],s.2)).1,(Cu F r k ([],s.2)).2)
    unfold Cu;simp
  | n+1,r,k,s=>by
    unfold tF vF
    rw [Dw,Dw,Ge (GV F n),Ge (GV F n) _ _ _ (Cu F r k ([],s.2))]
    unfold Cu;simp
theorem IF (F:FsM) (n:Nat) (r:RowM) (k:Nat) (X:List ByteArray) (s:Rows):addL F n r k X s=(s.1++tL F n r k X s.2,vL F n r k X s.2):=Ge (GV F n) r k X s
theorem OV (F:FsM) (r:RowM) (k:Nat) (V:List Nat):tF F 0 r k V=[Ex F r k (Ck F V k)]:=rfl
theorem Mr (F:FsM) (n:Nat) (r:RowM) (k:Nat) (V:List Nat):tF F (n+1) r k V=Ex F r k (Ck F V k)::tL F n r k (Aw (Al F.E k)) (Ck F V k):=by
  unfold tF;rw [Dw,IF];rfl
theorem OW (F:FsM) (n:Nat) (r:RowM) (k:Nat) (V:List Nat):vF F (n+1) r k V=vL F n r k (Aw (Al F.E k)) (Ck F V k):=by
  unfold vF;rw [Dw,IF];rfl
theorem Jb (F:FsM) (n:Nat) (r:RowM) (k:Nat) (x:ByteArray) (X:List ByteArray) (V:List Nat):tL F n r k (x::X) V=tF F n (Fu r x) (Au F k x) V++tL F n r k X (vF F n (Fu r x) (Au F k x) V):=by
  show (addL F n r k X (Dv F n (Fu r x) (Au F k x) ([],V))).1=_
  rw [GV,IF];rfl
theorem OX (F:FsM) (n:Nat) (r:RowM) (k:Nat) (x:ByteArray) (X:List ByteArray) (V:List Nat):vL F n r k (x::X) V=vL F n r k X (vF F n (Fu r x) (Au F k x) V):=by
  show (addL F n r k X (Dv F n (Fu r x) (Au F k x) ([],V))).2=_
  rw [GV,IF]
theorem KC (F:FsM) (V:List Nat) (k:Nat):V <+: Ck F V k:=by
  unfold Ck
  split
  · exact List.prefix_refl _
  · split
    · exact List.prefix_refl _
    · exact List.prefix_append _ _
theorem Mt {F:FsM} {n:Nat} (h:∀ r k V,V <+: vF F n r k V) (r:RowM) (k:Nat):∀ (X:List ByteArray) (V:List Nat),V <+: vL F n r k X V
  | [],V=>List.prefix_refl _
  | x::X,V=>by rw [OX];exact (h _ _ V).trans (Mt h r k X _)
theorem RH (F:FsM):∀ (n:Nat) (r:RowM) (k:Nat) (V:List Nat),V <+: vF F n r k V
  | 0,r,k,V=>KC F V k
  | n+1,r,k,V=>by rw [OW];exact (KC F V k).trans (Mt (RH F n) r k _ _)
theorem Ms (F:FsM) (n:Nat) (r:RowM) (k:Nat) (X:List ByteArray) (V:List Nat):V <+: vL F n r k X V:=Mt (RH F n) r k X V
theorem EY (F:FsM) (r:RowM) (k:Nat) (V:List Nat):(Ex F r k V).dp=r.dp∧(Ex F r k V).nm=r.nm∧(Ex F r k V).cl=r.cl∧(Ex F r k V).fd=r.fd:=by
  unfold Ex;split<;>exact ⟨rfl,rfl,rfl,rfl⟩
theorem Ja (F:FsM) (n:Nat) (r:RowM) (k:Nat) (V:List Nat):∃ T,tF F n r k V=Ex F r k (Ck F V k)::T:=by
  cases n with
  | zero=>exact ⟨[],rfl⟩
  | succ n=>exact ⟨_,Mr F n r k V⟩
def Qi (d:Int) (X:List RowM):Prop:=∀ h T,X=h::T→h.dp≤d
def Loc (F G:FsM) (U U':List Nat) (k k':Nat):Prop:=F.dir k=G.dir k'∧(F.dir k=false→(F.at k).data=(G.at k').data∧k∈U∧k'∈U'∧U.idxOf k=U'.idxOf k')
def Sim (F G:FsM) (U U':List Nat):Nat→Nat→Nat→Prop
  | 0,k,k'=>Loc F G U U' k k'∧F.dir k=false
  | n+1,k,k'=>Loc F G U U' k k'∧Aw (Al F.E k)=Aw (Al G.E k')∧∀ x∈Aw (Al F.E k),Sim F G U U' n (Au F k x) (Au G k' x)
section
variable {F G:FsM} {U U':List Nat} {δ δ2:Nat→Int}
theorem Sim.loc:∀ {n k k':Nat},Sim F G U U' n k k'→Loc F G U U' k k'
  | 0,_,_,h=>h.1
  | _+1,_,_,h=>h.1
theorem MQ {k:Nat} (h:F.dir k=false) (V:List Nat):k∈Ck F V k:=by
  unfold Ck
  rw [if_neg (by rw [h];decide)]
  split
  · assumption
  · exact List.mem_append_right _ (List.mem_singleton.2 rfl)
theorem OF {V U:List Nat} (h:V <+: U) {k:Nat} (hk:k∈V):U.idxOf k=V.idxOf k:=by
  obtain ⟨T,rfl⟩:=h
  rw [List.idxOf_append,if_pos hk]
theorem Mi {r:RowM} (hr:r.fl=0) {k k':Nat} {V V':List Nat} (h:Ex F r k (Ck F V k)=Ex G r k' (Ck G V' k')) (hU:Ck F V k <+: U) (hU':Ck G V' k' <+: U'):Loc F G U U' k k':=by
  unfold Loc
  cases h1:F.dir k with
  | true=>
    cases h2:G.dir k' with
    | true=>exact ⟨rfl,fun q=>by cases q⟩
    | false=>
      unfold Ex at h
      rw [if_pos h1,if_neg (by rw [h2];decide)] at h
      have e:=congrArg RowM.fl h
      simp only [hr] at e
      omega
  | false=>
    cases h2:G.dir k' with
    | true=>
      unfold Ex at h
      rw [if_neg (by rw [h1];decide),if_pos h2] at h
      have e:=congrArg RowM.fl h
      simp only [hr] at e
      omega
    | false=>
      unfold Ex at h
      rw [if_neg (by rw [h1];decide),if_neg (by rw [h2];decide)] at h
      have e:=congrArg RowM.fl h
      have e2:=congrArg RowM.dt h
      simp only at e e2
      have m1:=MQ h1 V
      have m2:=MQ h2 V'
      exact ⟨rfl,fun _=>⟨e2,hU.subset m1,hU'.subset m2,by rw [OF hU m1,OF hU' m2];omega⟩⟩
theorem Rb {n:Nat} {r:RowM} {k:Nat} {X:List RowM} (h:Qi r.dp X) (L:List ByteArray) (V:List Nat):Qi (r.dp+1) (tL F n r k L V++X):=by
  intro a T e
  cases L with
  | nil=>have:=h a T e;omega
  | cons x L=>
    rw [Jb] at e
    obtain ⟨T2,e2⟩:=Ja F n (Fu r x) (Au F k x) V
    rw [e2] at e
    have e3:Ex F (Fu r x) (Au F k x) (Ck F V (Au F k x))=a:=by injection e
    rw [← e3,(EY ..).1]
    exact Int.le_refl _
theorem Sx (hF:FsC F δ) (hG:FsC G δ2):∀ (n:Nat) {r:RowM} {k k':Nat} {V V':List Nat} {X Y:List RowM},r.fl=0→Fuel F n k→Fuel G n k'→vF F n r k V <+: U→vF G n r k' V' <+: U'→tF F n r k V++X=tF G n r k' V'++Y→Qi r.dp X→Qi r.dp Y→X=Y∧Sim F G U U' n k k'
  | 0,r,k,k',V,V',X,Y,hr,fF,fG,hU,hU',e,hX,hY=>by
    rw [OV,OV] at e
    have e1:Ex F r k (Ck F V k)=Ex G r k' (Ck G V' k'):=by injection e
    have e2:X=Y:=by injection e
    refine ⟨e2,Mi hr e1 hU hU',?_⟩
    cases hd:F.dir k with
    | false=>rfl
    | true=>obtain ⟨m,q⟩:=fF.pos hF hd;cases q
  | n+1,r,k,k',V,V',X,Y,hr,fF,fG,hU,hU',e,hX,hY=>by
    rw [Mr,Mr] at e
    rw [OW] at hU hU'
    have e1:Ex F r k (Ck F V k)=Ex G r k' (Ck G V' k'):=by injection e
    have e2:tL F n r k (Aw (Al F.E k)) (Ck F V k)++X=tL G n r k' (Aw (Al G.E k')) (Ck G V' k')++Y:=by injection e
    have hloc:=Mi hr e1 ((Ms F n r k _ _).trans hU) ((Ms G n r k' _ _).trans hU')
    have inner:∀ (L L':List ByteArray) (V V':List Nat),(∀ x∈L,x∈Aw (Al F.E k))→(∀ x∈L',x∈Aw (Al G.E k'))→vL F n r k L V <+: U→vL G n r k' L' V' <+: U'→tL F n r k L V++X=tL G n r k' L' V'++Y→L=L'∧X=Y∧∀ x∈L,Sim F G U U' n (Au F k x) (Au G k' x):=by
      intro L
      induction L with
      | nil=>
        intro L' V V' _ _ _ _ e
        cases L' with
        | nil=>exact ⟨rfl,e,fun x h=>(by cases h)⟩
        | cons y L'=>
          exfalso
          rw [Jb] at e
          obtain ⟨T2,e3⟩:=Ja G n (Fu r y) (Au G k' y) V'
          rw [e3] at e
          have z:=hX _ _ e
          rw [(EY ..).1] at z
          have z:r.dp+1≤r.dp:=z
          omega
      | cons x L ih=>
        intro L' V V' hL hL' hU hU' e
        cases L' with
        | nil=>
          exfalso
          rw [Jb] at e
          obtain ⟨T2,e3⟩:=Ja F n (Fu r x) (Au F k x) V
          rw [e3] at e
          have z:=hY _ _ e.symm
          rw [(EY ..).1] at z
          have z:r.dp+1≤r.dp:=z
          omega
        | cons y L'=>
          rw [Jb,Jb,List.append_assoc,List.append_assoc] at e
          rw [OX] at hU hU'
          have exy:x=y:=by
            obtain ⟨T2,e3⟩:=Ja F n (Fu r x) (Au F k x) V
            obtain ⟨T3,e4⟩:=Ja G n (Fu r y) (Au G k' y) V'
            rw [e3,e4] at e
            have e5:Ex F (Fu r x) (Au F k x) (Ck F V (Au F k x))=Ex G (Fu r y) (Au G k' y) (Ck G V' (Au G k' y)):=by injection e
            have e6:=congrArg RowM.nm e5
            rw [(EY ..).2.1,(EY ..).2.1] at e6
            exact e6
          subst exy
          obtain ⟨p1,p2⟩:=Sx hF hG n (r:=Fu r x) rfl (fF.sub hF (hL x List.mem_cons_self)) (fG.sub hG (hL' x List.mem_cons_self)) ((Ms F n r k _ _).trans hU) ((Ms G n r k' _ _).trans hU') e (Rb hX L _) (Rb hY L' _)
          obtain ⟨p3,p4,p5⟩:=ih L' _ _ (fun z hz=>hL z (List.mem_cons_of_mem _ hz)) (fun z hz=>hL' z (List.mem_cons_of_mem _ hz)) hU hU' p1
          refine ⟨by rw [p3],p4,fun z hz=>?_⟩
          rcases List.mem_cons.1 hz with rfl | hz
          · exact p2
          · exact p5 z hz
    obtain ⟨q1,q2,q3⟩:=inner _ _ _ _ (fun x h=>h) (fun x h=>h) hU hU' e2
    exact ⟨q2,hloc,q1,q3⟩
def oL (F:FsM) (P:List (Int×Int)) (V:List Nat):List RowM:=(addO F P ([],V)).1
def oV (F:FsM) (P:List (Int×Int)) (V:List Nat):List Nat:=(addO F P ([],V)).2
theorem GW (F:FsM):∀ (P:List (Int×Int)) (s:Rows),addO F P s=(s.1++oL F P s.2,oV F P s.2)
  | [],s=>by show s=(s.1++[],s.2);rw [List.append_nil]
  | p::P,s=>by
    have e1:addO F (p::P) s=addO F P (Cu F (Ig p) (Cv F p) s):=rfl
    have e2:addO F (p::P) ([],s.2)=addO F P (Cu F (Ig p) (Cv F p) ([],s.2)):=rfl
    unfold oL oV
    rw [e1,e2,GW F P,GW F P (Cu F (Ig p) (Cv F p) ([],s.2))]
    unfold Cu;simp
theorem IU (F:FsM) (p:Int×Int) (P:List (Int×Int)) (V:List Nat):oL F (p::P) V=Ex F (Ig p) (Cv F p) (Ck F V (Cv F p))::oL F P (Ck F V (Cv F p)):=by
  show (addO F P (Cu F (Ig p) (Cv F p) ([],V))).1=_
  rw [GW];rfl
theorem OH (F:FsM) (p:Int×Int) (P:List (Int×Int)) (V:List Nat):oV F (p::P) V=oV F P (Ck F V (Cv F p)):=by
  show (addO F P (Cu F (Ig p) (Cv F p) ([],V))).2=_
  rw [GW];rfl
theorem KG (F:FsM):∀ (P:List (Int×Int)) (V:List Nat),V <+: oV F P V
  | [],V=>List.prefix_refl _
  | p::P,V=>by rw [OH];exact (KC F V _).trans (KG F P _)
theorem Ro:∀ (P P':List (Int×Int)) {V V':List Nat},oV F P V <+: U→oV G P' V' <+: U'→oL F P V=oL G P' V'→P=P'∧∀ p∈P,Loc F G U U' (Cv F p) (Cv G p)
  | [],[],V,V',_,_,_=>⟨rfl,fun p h=>(by cases h)⟩
  | [],p::P',V,V',_,_,e=>by rw [IU] at e;cases e
  | p::P,[],V,V',_,_,e=>by rw [IU] at e;cases e
  | p::P,q::P',V,V',hU,hU',e=>by
    rw [IU,IU] at e
    rw [OH] at hU hU'
    have e1:Ex F (Ig p) (Cv F p) (Ck F V (Cv F p))=Ex G (Ig q) (Cv G q) (Ck G V' (Cv G q)):=by injection e
    have e2:oL F P (Ck F V (Cv F p))=oL G P' (Ck G V' (Cv G q)):=by injection e
    have e3:=congrArg RowM.cl e1
    have e4:=congrArg RowM.fd e1
    rw [(EY ..).2.2.1,(EY ..).2.2.1] at e3
    rw [(EY ..).2.2.2,(EY ..).2.2.2] at e4
    have epq:p=q:=Prod.ext e3 e4
    subst epq
    obtain ⟨h1,h2⟩:=Ro P P' hU hU' e2
    refine ⟨by rw [h1],fun z hz=>?_⟩
    rcases List.mem_cons.1 hz with rfl | hz
    · exact Mi rfl e1 ((KG F P _).trans hU) ((KG G P' _).trans hU')
    · exact h2 z hz
theorem Oc (hF:FsC F δ) (hG:FsC G δ2) (hzF:SmF F) (hzG:SmF G) (e:CD F=CD G):∃ U U',Sim F G U U' 1000 0 0∧DS F=DS G∧∀ p∈DS F,Loc F G U U' (Cv F p) (Cv G p):=by
  have key:∀ H:FsM,CD H=tF H 1000 De 0 []++oL H (DS H) (vF H 1000 De 0 []):=fun H=>by unfold CD MY;rw [GW];rfl
  rw [key,key] at e
  have low:∀ (H:FsM) (P:List (Int×Int)) (V:List Nat),Qi De.dp (oL H P V):=fun H P V a T e=>by
    cases P with
    | nil=>cases e
    | cons p P=>
      rw [IU] at e
      have e3:Ex H (Ig p) (Cv H p) (Ck H V (Cv H p))=a:=by injection e
      rw [← e3,(EY ..).1];exact Int.le_refl _
  obtain ⟨h1,h2⟩:=Sx (U:=oV F (DS F) (vF F 1000 De 0 [])) (U':=oV G (DS G) (vF G 1000 De 0 [])) hF hG 1000 (r:=De) (k:=0) (k':=0) rfl (fun _=>⟨[],rfl,by have:=hzF.1;rw [List.length_nil];omega⟩) (fun _=>⟨[],rfl,by have:=hzG.1;rw [List.length_nil];omega⟩) (KG ..) (KG ..) e (low _ _ _) (low _ _ _)
  obtain ⟨h3,h4⟩:=Ro _ _ (List.prefix_refl _) (List.prefix_refl _) h1
  exact ⟨_,_,h2,h3,h4⟩
end
end
section
def DirNil (F:FsM):Prop:=∀ i,F.dir i=true→(F.at i).data=[]
section
variable {F G:FsM} {X Y:List UInt8}
theorem DirNil.same (h:DirNil F) (e:G.N=F.N):DirNil G:=fun i hi=>by
  have ea:G.at i=F.at i:=by unfold FsM.at;rw [e]
  rw [ea];exact h i (by unfold FsM.dir at hi ⊢;rw [← ea];exact hi)
theorem DirNil.node (h:DirNil F) (b:Bool):DirNil (AH F b):=fun i hi=>by
  rw [Di] at hi
  rw [Fc]
  by_cases c:i=F.N.length
  · rw [if_pos c]
  · rw [if_neg c] at hi ⊢;exact h i hi
theorem DirNil.link (h:DirNil F) {n:Nat} (hn:n<F.N.length) (j:Int):DirNil (By F n j):=fun i hi=>by
  rw [Dz hn] at hi
  rw [Hl hn]
  split
  · rename_i c;rw [← c];exact h i hi
  · exact h i hi
theorem DirNil.data (h:DirNil F) {n:Nat} (hn:n<F.N.length) (hd:F.dir n=false) (d:List UInt8):DirNil (BS F n d):=fun i hi=>by
  rw [Gj hn] at hi
  rw [He hn]
  split
  · rename_i c;rw [c,hd] at hi;cases hi
  · exact h i hi
theorem DirNil.freed (h:DirNil F) {d m:Nat} {s:ByteArray} (hm:m<F.N.length):DirNil (Af F d s m):=by
  unfold Af;split
  · exact h.same rfl
  · exact (h.same (G:=As F d s) rfl).link hm _
theorem DirNil.do_ (hr:DirNil F) (h:FsOk F) (c:Int) (x:CallM):DirNil (doF F c x).1:=by
  unfold doF
  split
  · exact hr
  · refine Gq (Pr:=fun p=>DirNil p.1) ?_ ?_ ?_ ?_ ?_ ?_ ?_ ?_ ?_ ?_ ?_ ?_ ?_ hr
    · unfold AS;repeat' split
      all_goals first | exact hr | exact hr.same rfl | exact (hr.node false).same rfl
    · unfold BK;split
      · exact hr
      · exact hr.same rfl
    · unfold BV;repeat' split
      all_goals exact hr
    · unfold Bd;split
      · exact hr
      · rename_i m hm
        repeat' split
        all_goals first | exact hr | exact hr.data (h.toFsC.look_fd hm).1 (h.toFsC.look_fd hm).2 _
    · unfold BD;split
      · exact hr
      · rename_i m hm
        repeat' split
        all_goals first | exact hr | exact hr.data (h.toFsC.look_fd hm).1 (h.toFsC.look_fd hm).2 _
    · unfold Cw;split<;>exact hr
    · unfold CB;repeat' split
      all_goals first | exact hr | exact (hr.node true).same rfl
    · unfold Bj;repeat' split
      all_goals first | exact hr | exact hr.same rfl
    · unfold AN;repeat' split
      all_goals first | exact hr | exact (hr.same (G:=Br F _ _ _) rfl).link (h.toFsC.find_lt _) _
    · unfold Cb;repeat' split
      all_goals first | exact hr | exact (hr.same (G:=As F _ _) rfl).link (h.toFsC.find_lt _) _
    · unfold An;repeat' split
      all_goals first | exact hr | skip
      unfold Be
      split
      · exact hr.same rfl
      · rename_i m hl
        repeat' split
        all_goals first | exact hr | exact (hr.freed (h.toFsC.look_lt hl).1).same rfl
    · unfold Cn;split<;>(try split)<;>exact hr
    · unfold Cf;split<;>(try split)<;>exact hr
theorem NC:DirNil fs0:=fun i hi=>by
  cases i with
  | zero=>rfl
  | succ i=>cases hi
theorem DirNil.drop_ (hr:DirNil F) (c:Int):DirNil (EB F c):=hr.same rfl
end
theorem JK (f:Nat→AskV):∀ k,DirNil (Cc f k)
  | 0=>NC
  | k+1=>by
    have h:=JK f k
    have h2:=FX f k
    cases hd:(f k).drop with
    | true=>rw [HQ hd];exact h.drop_ _
    | false=>rw [JY hd];exact h.do_ h2 _ _
section
variable {F G:FsM} {U U':List Nat} {δ δ2:Nat→Int}
theorem Sim.walk (hF:FsC F δ) (hG:FsC G δ2) {n:Nat} (h0:Sim F G U U' n 0 0) (hn:F.N.length≤n):∀ (q:Nat) (M:List ByteArray) (i:Nat),M.length=q→Am F 0 M=(0,i)→∃ j m,Am G 0 M=(0,j)∧Sim F G U U' m i j∧n≤m+M.length:=by
  intro q
  induction q with
  | zero=>
    intro M i hq hM
    have e:=List.eq_nil_of_length_eq_zero hq
    subst e
    have e:0=i:=(Prod.mk.inj hM).2
    subst e
    exact ⟨0,n,rfl,h0,Nat.le_add_right _ _⟩
  | succ q ih=>
    intro M i hq hM
    rcases CC M with e | ⟨A,t,e⟩
    · subst e;cases hq
    subst e
    obtain ⟨a,ha,hda,hla⟩:=Fi hM
    obtain ⟨j,m,h1,h2,h3⟩:=ih A a (by simpa using hq) ha
    have hlt:=JV hF ha hda
    obtain ⟨m,rfl⟩:∃ x,m=x+1:=⟨m-1,ω⟩
    obtain ⟨hl,hnm,hs⟩:=h2
    have ht:t∈Aw (Al F.E a):=(Db _).mem_iff.2 (DB.2 (by rw [hla];rfl))
    have e1:Au F a t=i:=by unfold Au;rw [hla];rfl
    have hc:=CQ hG (show t∈Aw (Al G.E j) by rw [← hnm];exact ht)
    refine ⟨_,m,Ef h1 hc.2 hc.1,by rw [← e1];exact hs t ht,by rw [List.length_append];show n≤m+(A.length+1);omega⟩
theorem Sim.back (hF:FsC F δ) (hG:FsC G δ2) {n:Nat} (h0:Sim F G U U' n 0 0) (hn:F.N.length≤n):∀ (q:Nat) (M:List ByteArray) (j:Nat),M.length=q→Am G 0 M=(0,j)→∃ i,Am F 0 M=(0,i):=by
  intro q
  induction q with
  | zero=>
    intro M j hq hM
    have e:=List.eq_nil_of_length_eq_zero hq
    subst e
    exact ⟨0,rfl⟩
  | succ q ih=>
    intro M j hq hM
    rcases CC M with e | ⟨A,t,e⟩
    · subst e;cases hq
    subst e
    obtain ⟨b,hb,hdb,hlb⟩:=Fi hM
    obtain ⟨a,ha⟩:=ih A b (by simpa using hq) hb
    obtain ⟨b2,m,h1,h2,h3⟩:=Sim.walk hF hG h0 hn _ A a rfl ha
    have e:b2=b:=by rw [h1] at hb;exact (Prod.mk.inj hb).2
    subst e
    have hda:F.dir a=true:=by rw [h2.loc.1];exact hdb
    have hlt:=JV hF ha hda
    obtain ⟨m,rfl⟩:∃ x,m=x+1:=⟨m-1,ω⟩
    obtain ⟨hl,hnm,hs⟩:=h2
    have ht:t∈Aw (Al F.E a):=by rw [hnm];exact (Db _).mem_iff.2 (DB.2 (by rw [hlb];rfl))
    have hc:=CQ hF ht
    exact ⟨_,Ef ha hc.2 hc.1⟩
def FS (F G:FsM) (i j:Nat):Prop:=(∃ M,Am F 0 M=(0,i)∧Am G 0 M=(0,j))∨∃ c fd,Az F.O c fd=some i∧Az G.O c fd=some j
theorem Qw {S:Nat→Nat→Prop} (l:∀ {i j j'},S i j→S i j'→j=j') (r:∀ {i i' j},S i j→S i' j→i=i') (hF:FsC F δ) (hG:FsC G δ2) (he:∀ {d d' s m},S d d'→Aj F.E d s=some m→∃ m',Aj G.E d' s=some m'∧S m m') (hr:∀ x∈F.E,∃ d',S x.dn d') {i j:Nat} (hij:S i j):FB F.E i≤FB G.E j:=by
  have hφ:∀ d,∃ d',(∃ z,S d z)→S d d':=fun d=>by
    by_cases h:∃ z,S d z
    · obtain ⟨z,hz⟩:=h;exact ⟨z,fun _=>hz⟩
    · exact ⟨0,fun q=>absurd q h⟩
  obtain ⟨φ,hφ⟩:=Classical.axiomOfChoice hφ
  unfold FB
  have z:=Ep (A:=(F.E.filter fun x=>decide (x.nd=i)).map fun x=>(φ x.dn,x.nm)) (B:=(G.E.filter fun x=>decide (x.nd=j)).map fun y=>(y.dn,y.nm)) (by
    unfold List.Nodup
    rw [List.pairwise_map]
    refine List.Pairwise.imp_of_mem (fun {x y} hx hy hxy e=>hxy ?_) (List.Pairwise.filter _ hF.ed)
    obtain ⟨e1,e2⟩:=Prod.mk.inj e
    have a:=hφ _ (hr x (List.mem_filter.1 hx).1)
    have b:=hφ _ (hr y (List.mem_filter.1 hy).1)
    rw [e1] at a
    exact ⟨r a b,e2⟩) (fun a ha=>by
    obtain ⟨x,hx,rfl⟩:=List.mem_map.1 ha
    obtain ⟨h1,h2⟩:=List.mem_filter.1 hx
    have a:=hφ _ (hr x h1)
    obtain ⟨m',hm,hs⟩:=he a (IQ hF.ed h1)
    rw [of_decide_eq_true h2] at hs
    have e:=l hs hij
    subst e
    obtain ⟨y,hy,e1,e2,e3⟩:=BZ hm
    exact List.mem_map.2 ⟨y,List.mem_filter.2 ⟨hy,decide_eq_true e3⟩,by rw [e1,e2]⟩)
  rw [List.length_map,List.length_map] at z;exact z
theorem Ru (hF:FsOk F) (hG:FsOk G) (rF:Reach F) (rG:Reach G) (nF:DirNil F) (nG:DirNil G) (hzF:SmF F) (hzG:SmF G) (e:CD F=CD G):∃ S,Iso S F G:=by
  have cF:=hF.toFsC
  have cG:=hG.toFsC
  obtain ⟨U,U',h0,hfd,hO⟩:=Oc cF cG hzF hzG e
  have hn:=hzF.1
  have W:=Sim.walk cF cG h0 hn
  have path:∀ {M i j},Am F 0 M=(0,i)→Am G 0 M=(0,j)→∃ m,Sim F G U U' m i j∧1000≤m+M.length:=fun {M i j} h1 h2=>by
    obtain ⟨j2,m,h3,h4,h5⟩:=W _ M i rfl h1
    have e:j2=j:=by rw [h3] at h2;exact (Prod.mk.inj h2).2
    subst e
    exact ⟨m,h4,h5⟩
  have loc:∀ {i j},FS F G i j→Loc F G U U' i j:=fun {i j} h=>by
    rcases h with ⟨M,h1,h2⟩ | ⟨c,fd,h1,h2⟩
    · obtain ⟨m,h3,_⟩:=path h1 h2;exact h3.loc
    · have z:=hO (c,fd) ((DX cF).2 (by rw [h1];rfl))
      have e1:Cv F (c,fd)=i:=by unfold Cv;rw [h1];rfl
      have e2:Cv G (c,fd)=j:=by unfold Cv;rw [h2];rfl
      rw [e1,e2] at z;exact z
  have back:∀ {V:List Nat} {a b:Nat},a∈V→b∈V→V.idxOf a=V.idxOf b→a=b:=fun {V a b} h1 h2 h3=>by
    have z:=Kp h1
    rw [h3,Kp h2] at z
    exact z.symm
  have l:∀ {i j j'},FS F G i j→FS F G i j'→j=j':=fun {i j j'} a b=>by
    cases hd:F.dir i with
    | true=>
      rcases a with ⟨M,a1,a2⟩ | ⟨c,fd,a1,_⟩
      · rcases b with ⟨M2,b1,b2⟩ | ⟨c,fd,b1,_⟩
        · have e:=cF.uniq _ M M2 i rfl a1 b1 hd
          subst e
          rw [a2] at b2;exact (Prod.mk.inj b2).2
        · rw [(cF.look_fd b1).2] at hd;cases hd
      · rw [(cF.look_fd a1).2] at hd;cases hd
    | false=>
      obtain ⟨_,_,p1,p2⟩:=(loc a).2 hd
      obtain ⟨_,_,q1,q2⟩:=(loc b).2 hd
      exact back p1 q1 (p2.symm.trans q2)
  have r:∀ {i i' j},FS F G i j→FS F G i' j→i=i':=fun {i i' j} a b=>by
    cases hd:G.dir j with
    | true=>
      rcases a with ⟨M,a1,a2⟩ | ⟨c,fd,_,a1⟩
      · rcases b with ⟨M2,b1,b2⟩ | ⟨c,fd,_,b1⟩
        · have e:=cG.uniq _ M M2 j rfl a2 b2 hd
          subst e
          rw [a1] at b1;exact (Prod.mk.inj b1).2
        · rw [(cG.look_fd b1).2] at hd;cases hd
      · rw [(cG.look_fd a1).2] at hd;cases hd
    | false=>
      obtain ⟨_,p1,_,p2⟩:=(loc a).2 (by rw [(loc a).1];exact hd)
      obtain ⟨_,q1,_,q2⟩:=(loc b).2 (by rw [(loc b).1];exact hd)
      exact back p1 q1 (p2.trans q2.symm)
  have none_of:∀ {H:FsM} {ε:Nat→Int},FsC H ε→∀ {k},H.dir k=false→∀ s,Aj H.E k s=none:=fun {H ε} hH {k} hd s=>by
    cases hl:Aj H.E k s with
    | none=>rfl
    | some m=>obtain ⟨x,hx,e,_⟩:=BZ hl;have:=(hH.e x hx).1.2;rw [e,hd] at this;cases this
  have e1:∀ {i j},FS F G i j→∀ s,(∀ m,Aj F.E i s=some m→∃ m',Aj G.E j s=some m'∧FS F G m m')∧(Aj F.E i s=none→Aj G.E j s=none):=fun {i j} h s=>by
    cases hd:F.dir i with
    | false=>exact ⟨fun m hm=>(by rw [none_of cF hd] at hm;cases hm),fun _=>none_of cG (by rw [← (loc h).1];exact hd) s⟩
    | true=>
      rcases h with ⟨M,h1,h2⟩ | ⟨c,fd,h1,_⟩
      · obtain ⟨m,h3,h4⟩:=path h1 h2
        have hlt:=JV cF h1 hd
        obtain ⟨m,rfl⟩:∃ x,m=x+1:=⟨m-1,ω⟩
        obtain ⟨hl,hnm,hs⟩:=h3
        refine ⟨fun k hk=>?_,fun hk=>?_⟩
        · have ht:s∈Aw (Al G.E j):=by rw [← hnm];exact (Db _).mem_iff.2 (DB.2 (by rw [hk];rfl))
          have hc:=CQ cG ht
          exact ⟨_,hc.1,.inl ⟨M++[s],Ef h1 hd hk,Ef h2 hc.2 hc.1⟩⟩
        · cases hl2:Aj G.E j s with
          | none=>rfl
          | some k=>
            have ht:s∈Aw (Al F.E i):=by rw [hnm];exact (Db _).mem_iff.2 (DB.2 (by rw [hl2];rfl))
            rw [(CQ cF ht).1] at hk;cases hk
      · rw [(cF.look_fd h1).2] at hd;cases hd
  have e2:∀ {i j s m},FS F G i j→Aj G.E j s=some m→∃ k,Aj F.E i s=some k∧FS F G k m:=fun {i j s m} h hm=>by
    cases hk:Aj F.E i s with
    | none=>rw [(e1 h s).2 hk] at hm;cases hm
    | some k=>
      obtain ⟨m',h1,h2⟩:=(e1 h s).1 k hk
      rw [hm] at h1
      have e:m=m':=Option.some.inj h1
      exact ⟨k,rfl,e ▸ h2⟩
  have rF2:∀ x∈F.E,∃ d',FS F G x.dn d':=fun x hx=>by
    obtain ⟨M,hM⟩:=rF x hx
    obtain ⟨j,m,h1,_⟩:=W _ M _ rfl hM
    exact ⟨j,.inl ⟨M,hM,h1⟩⟩
  have rG2:∀ x∈G.E,∃ d,FS F G d x.dn:=fun x hx=>by
    obtain ⟨M,hM⟩:=rG x hx
    obtain ⟨i,h1⟩:=Sim.back cF cG h0 hn _ M _ rfl hM
    exact ⟨i,.inl ⟨M,h1,hM⟩⟩
  refine ⟨FS F G,{ root:=.inl ⟨[],rfl,rfl⟩,l:=l,r:=r,lt:=fun {i j} h=>?_,nd:=fun {i j} h=>?_,e:=fun {i j} h s=>e1 h s,o:=fun c fd=>?_ }⟩
  · rcases h with ⟨M,h1,h2⟩ | ⟨c,fd,h1,h2⟩
    · have a:=cF.walk_lt M 0 cF.n0.1
      have b:=cG.walk_lt M 0 cG.n0.1
      rw [h1] at a;rw [h2] at b
      exact ⟨a,b⟩
    · exact ⟨(cF.look_fd h1).1,(cG.look_fd h2).1⟩
  · have hlt:i<F.N.length∧j<G.N.length:=by
      rcases h with ⟨M,h1,h2⟩ | ⟨c,fd,h1,h2⟩
      · have a:=cF.walk_lt M 0 cF.n0.1
        have b:=cG.walk_lt M 0 cG.n0.1
        rw [h1] at a;rw [h2] at b
        exact ⟨a,b⟩
      · exact ⟨(cF.look_fd h1).1,(cG.look_fd h2).1⟩
    have hL:=loc h
    have kF:=cF.k i hlt.1
    have kG:=cG.k j hlt.2
    have ext:∀ {a b:NodeM},a.dir=b.dir→a.data=b.data→a.links=b.links→a=b:=fun {a b} h1 h2 h3=>by cases a;cases b;simp only at h1 h2 h3;subst h1;subst h2;subst h3;rfl
    cases hd:F.dir i with
    | true=>
      have hd2:G.dir j=true:=by rw [← hL.1];exact hd
      exact ext hL.1 (by rw [nF i hd,nG j hd2]) (by rw [kF.2.1 hd,kG.2.1 hd2])
    | false=>
      have hd2:G.dir j=false:=by rw [← hL.1];exact hd
      refine ext hL.1 (hL.2 hd).1 ?_
      rw [kF.2.2 hd,kG.2.2 hd2]
      have a:=Qw (S:=FS F G) l r cF cG (fun h1 h2=>(e1 h1 _).1 _ h2) rF2 h
      have b:=Qw (F:=G) (G:=F) (S:=fun p q=>FS F G q p) (fun h1 h2=>r h1 h2) (fun h1 h2=>l h1 h2) cG cF (fun h1 h2=>e2 h1 h2) rG2 h
      omega
  · refine ⟨fun m hm=>?_,fun hm=>?_⟩
    · have hp:(c,fd)∈DS G:=by rw [← hfd];exact (DX cF).2 (by rw [hm];rfl)
      obtain ⟨m',hm'⟩:=Option.isSome_iff_exists.1 ((DX cG).1 hp)
      exact ⟨m',hm',.inr ⟨c,fd,hm,hm'⟩⟩
    · cases hl:Az G.O c fd with
      | none=>rfl
      | some m=>
        have hp:(c,fd)∈DS F:=by rw [hfd];exact (DX cG).2 (by rw [hl];rfl)
        have z:=(DX cF).1 hp
        rw [hm] at z;cases z
end
end
section
theorem QP {L:List ByteArray} {i:Nat} (hi:i<L.length):L.getD i AL∈L:=by
 rw [List.getD_eq_getElem?_getD,List.getElem?_eq_getElem hi];exact List.getElem_mem hi
end
section
theorem Tu {a b:NodeM} (h:a=b):((a.dir == b.dir)&&(((Ad a.data).toList == (Ad b.data).toList)&&decide (a.links=b.links)))=true:=by subst h;simp
theorem Fr (x0:Bool) (x1:ByteArray) (x2:Int) (y0:Bool) (y1:ByteArray) (y2:Int) (w:World):(Op.equalIn 10000 88 (.agg #[.bool x0,.string x1,ν x2]) (.agg #[.bool y0,.string y1,ν y2])).run Tryz.prog w=.ok ((x0 == y0)&&((x1.toList == y1.toList)&&decide (x2=y2))) w:=by
 have u3:=υ3
 have a3:=Tryz.isAgg3
 have z3:=Tryz.sizeOf3
 have u4:=υ4
 have a4:=Tryz.isAgg4
 have z4:=Tryz.sizeOf4
 have u9:=υ9
 have a9:=Tryz.isAgg9
 have z9:=Tryz.sizeOf9
 have hS:Tryz.prog.underlying 88=some (.struct (Tryz.prog.fieldsOf 88)):=κ
 have hp:Tryz.prog.stoodInHeld 88=false:=κ
 rw [show (10000:Nat)=9999+1 from rfl,run_equalIn_agg w 9999 88 _ _ hS hp]
 simp only [Program.fieldsOf,υ88]
 go_simp
 by_cases h0:x0=y0
 case neg=>simp [h0]
 by_cases h1:x1.toList=y1.toList
 case neg=>simp [h0,h1]
 by_cases h2:x2=y2
 case neg=>simp [h0,h1,h2]
 simp [h0,h1,h2]
theorem Fm (o p:Operand) (x0:Bool) (x1:ByteArray) (x2:Int) (y0:Bool) (y1:ByteArray) (y2:Int) (w:World):(do eqGuard .neq 88 o p (.agg #[.bool x0,.string x1,ν x2]) (.agg #[.bool y0,.string y1,ν y2]);binOp .neq 88 (.agg #[.bool x0,.string x1,ν x2]) (.agg #[.bool y0,.string y1,ν y2]):Sem Value).run Tryz.prog w=.ok (.bool (!((x0 == y0)&&((x1.toList == y1.toList)&&decide (x2=y2))))) w:=by
 have e:(Op.equal 88 (.agg #[.bool x0,.string x1,ν x2]) (.agg #[.bool y0,.string y1,ν y2])).run Tryz.prog w=.ok ((x0 == y0)&&((x1.toList == y1.toList)&&decide (x2=y2))) w:=Fr x0 x1 x2 y0 y1 y2 w
 rw [Sem.run_bind,run_eqGuard_agg (P:=Tryz.prog) w .neq 88 o p _ _ κ]
 show (binOp .neq 88 _ _).run Tryz.prog w=_
 simp only [binOp,Sem.run_bind,e]
 rfl
theorem Fq (args:Array Value) (w:World):(callFunc 19 args).run Tryz.prog w=.ok (.enter 19 args) w:=by
 have h:=Tryz.func19
 go_simp
theorem Nb {w:World} {df dg:Nat} {na ea oa ma ga pa:Option Addr} {nc ec oc mc gc pc:Nat} {F G:FsM} {δ δ2:Nat→Int} {R:List Ch} {i j n:Nat} (hF:FsC F δ) (hG:FsC G δ2) (hzF:SmF F) (hzG:SmF G) (hS0:Sep w ([Ah df 51 [.slice na F.N.length nc,.slice ea F.E.length ec,.slice oa F.O.length oc],Ai 0 88 3 na F.N.length nc (F.N.flatMap Ca),Ai 0 114 3 ea F.E.length ec (F.E.flatMap BU),Ai 0 93 3 oa F.O.length oc (F.O.flatMap BQ),Ah dg 51 [.slice ma G.N.length mc,.slice ga G.E.length gc,.slice pa G.O.length pc],Ai 0 88 3 ma G.N.length mc (G.N.flatMap Ca),Ai 0 114 3 ga G.E.length gc (G.E.flatMap BU),Ai 0 93 3 pa G.O.length pc (G.O.flatMap BQ)]++R)) (hi:i<F.N.length) (hj:j<G.N.length) (hfu:Fuel F (n+1) i) (ih:∀ {w:World} {i j:Nat} {R:List Ch},Fuel F n i→F.dir i=true→i<F.N.length→j<G.N.length→Sep w ([Ah df 51 [.slice na F.N.length nc,.slice ea F.E.length ec,.slice oa F.O.length oc],Ai 0 88 3 na F.N.length nc (F.N.flatMap Ca),Ai 0 114 3 ea F.E.length ec (F.E.flatMap BU),Ai 0 93 3 oa F.O.length oc (F.O.flatMap BQ),Ah dg 51 [.slice ma G.N.length mc,.slice ga G.E.length gc,.slice pa G.O.length pc],Ai 0 88 3 ma G.N.length mc (G.N.flatMap Ca),Ai 0 114 3 ga G.E.length gc (G.E.flatMap BU),Ai 0 93 3 pa G.O.length pc (G.O.flatMap BQ)]++R)→CallsR Tryz.prog 19 #[π df,ν (i:Int),π dg,ν (j:Int)] w (fun v w'=>∃ b,v=.bool b∧Sep w' ([Ah df 51 [.slice na F.N.length nc,.slice ea F.E.length ec,.slice oa F.O.length oc],Ai 0 88 3 na F.N.length nc (F.N.flatMap Ca),Ai 0 114 3 ea F.E.length ec (F.E.flatMap BU),Ai 0 93 3 oa F.O.length oc (F.O.flatMap BQ),Ah dg 51 [.slice ma G.N.length mc,.slice ga G.E.length gc,.slice pa G.O.length pc],Ai 0 88 3 ma G.N.length mc (G.N.flatMap Ca),Ai 0 114 3 ga G.E.length gc (G.E.flatMap BU),Ai 0 93 3 pa G.O.length pc (G.O.flatMap BQ)]++R)∧((∃ S,Iso S F G∧S i j)→b=true))) :
  CallsR Tryz.prog 19 #[π df,ν (i:Int),π dg,ν (j:Int)] w (fun v w'=>∃ b,v=.bool b∧Sep w' ([Ah df 51 [.slice na F.N.length nc,.slice ea F.E.length ec,.slice oa F.O.length oc],Ai 0 88 3 na F.N.length nc (F.N.flatMap Ca),Ai 0 114 3 ea F.E.length ec (F.E.flatMap BU),Ai 0 93 3 oa F.O.length oc (F.O.flatMap BQ),Ah dg 51 [.slice ma G.N.length mc,.slice ga G.E.length gc,.slice pa G.O.length pc],Ai 0 88 3 ma G.N.length mc (G.N.flatMap Ca),Ai 0 114 3 ga G.E.length gc (G.E.flatMap BU),Ai 0 93 3 pa G.O.length pc (G.O.flatMap BQ)]++R)∧((∃ S,Iso S F G∧S i j)→b=true)):=by
 have hS:Sep w [Ah df 51 [.slice na F.N.length nc,.slice ea F.E.length ec,.slice oa F.O.length oc],Ai 0 88 3 na F.N.length nc (F.N.flatMap Ca),Ai 0 114 3 ea F.E.length ec (F.E.flatMap BU),Ai 0 93 3 oa F.O.length oc (F.O.flatMap BQ),Ah dg 51 [.slice ma G.N.length mc,.slice ga G.E.length gc,.slice pa G.O.length pc],Ai 0 88 3 ma G.N.length mc (G.N.flatMap Ca),Ai 0 114 3 ga G.E.length gc (G.E.flatMap BU),Ai 0 93 3 pa G.O.length pc (G.O.flatMap BQ),Ch.many R]:=Sep.tail_many (xs:=[_,_,_,_,_,_,_,_]) hS0;clear hS0
 obtain ⟨L,hL⟩:∃ L,Aw (Al F.E i)=L:=⟨_,rfl⟩
 obtain ⟨M,hM⟩:∃ L,Aw (Al G.E j)=L:=⟨_,rfl⟩
 have hLl:L.length≤1000:=by rw [← hL,Ee];exact Nat.le_trans (Ev _ _) hzF.2.1
 have hMl:M.length≤1000:=by rw [← hM,Ee];exact Nat.le_trans (Ev _ _) hzG.2.1
 have hz1:=hzF.1
 have hz2:=hzG.1
 refine AE Tryz.func19 rfl (N:=75) Tryz.ntmps19 (by show 4≤75;decide) [(0,π df),(1,ν (i:Int)),(2,π dg),(3,ν (j:Int))] rfl fun _ h1=>sqr fun _ hK3=>mv h1 rfl fun _ h4=>wpList_nil<|hK3 _ _<|sqr fun _ hK6=>mvs 2 h4 rfl fun _ h9=>cl h9 rfl Dp ((by have z:=Iw (F:=F) (d:=i) hS hzF;rw [hL] at z;exact z)) fun _ v1 w2 r1 h3=>?_
 obtain ⟨sax11,scx12,rfl,s1⟩:=r1
 refine mv h3 rfl fun _ h5=>h5.sn [9,8,0,1,2,3] rfl fun h6=>hK6 _ _<|sqr fun _ hK1=>mvs 3 h6 rfl fun _ h7=>cl h7 rfl Dp ((by have z:=Iw (F:=G) (d:=j) (s1.pk [5,6,7,8,0,1,2,3,4,9] rfl) hzG;rw [hM] at z;exact z)) fun _ v2 w3 r2 h8=>?_
 obtain ⟨tax30,tcx31,rfl,s2⟩:=r2
 refine cl h8 rfl EZ (Na (s2.pk [5,0,1,2,3,4,6,7,8,9,10] rfl) ω ω) fun _ v3 w4 r3 h10=>?_
 obtain ⟨rfl,s3⟩:=r3
 refine mv h10 rfl fun _ h11=>h11.sn [10,9,8,0,1,2,3] rfl fun h12=>hK1 _ _<|sq fun _ hK2=>sqr fun _ hK4=>mvs 2 h12 rfl fun _ h13=>h13.sn [24,10,9,8,0,1,2,3] rfl fun h14=>hK4 _ _ ?_
 rcases bC (decide (L=M)) with hc1 | hc1
 ·skip
  have hp1:L=M:=(dT hc1)
  refine wcF h14 rfl (Bq hc1)<|h14.sk [10,9,8,0,1,2,3] rfl fun h15=>wp_skip<|hK2 _ _<|sq fun _ hK5=>sqr fun _ hK7=>mv h15 rfl fun _ h16=>wpList_nil<|hK7 _ _<|wp_block ?_
  have hLM:L=M:=hp1
  refine DK (fun (q:Nat) a' w'=>Kn 75 [(11,ν (q:Int)),(10,.bool (decide (L=M))),(9,.slice sax11 L.length scx12),(8,.bool false),(0,π df),(1,ν (i:Int)),(2,π dg),(3,ν (j:Int))] a'∧Sep w' [Ai 0 9 1 sax11 L.length scx12 (L.flatMap sE),Ai 0 9 1 tax30 M.length tcx31 (M.flatMap sE),Ah dg 51 [.slice ma G.N.length mc,.slice ga G.E.length gc,.slice pa G.O.length pc],Ai 0 88 3 ma G.N.length mc (G.N.flatMap Ca),Ai 0 114 3 ga G.E.length gc (G.E.flatMap BU),Ai 0 93 3 pa G.O.length pc (G.O.flatMap BQ),Ah df 51 [.slice na F.N.length nc,.slice ea F.E.length ec,.slice oa F.O.length oc],Ai 0 88 3 na F.N.length nc (F.N.flatMap Ca),Ai 0 114 3 ea F.E.length ec (F.E.flatMap BU),Ai 0 93 3 oa F.O.length oc (F.O.flatMap BQ),Ch.many R]∧(q≤L.length)) (fun (q:Nat)=>L.length-q) 0 ⟨h16.subs rfl,s3,Nat.zero_le _⟩ ?_
  rintro q69 a1 w5 ⟨h17,s4,hq1⟩ K1 hK8
  refine sq fun _ hK9=>sqr fun _ hK10=>mvs 2 h17 rfl fun _ h18=>sv1 h18 rfl (v:=ν (L.length:Int)) (CR h18 rfl rfl υ33) fun _ h19=>bv h19 (z:=.bool (decide ((q69:Int)<(L.length:Int)))) rfl (cLt _ _ _ _ rfl) fun _ h20=>h20.sn [28,11,10,9,8,0,1,2,3] rfl fun h21=>hK10 _ _ ?_
  rcases bC (decide ((q69:Int)<(L.length:Int))) with hc2 | hc2
  ·skip
   have hp2:(q69:Int)<(L.length:Int):=(dT hc2)
   refine wcT h21 rfl hc2<|h21.sk [11,10,9,8,0,1,2,3] rfl fun h22=>wp_skip<|hK9 _ _<|sq fun _ hK11=>wp_block ?_
   refine sq fun _ hK12=>?_
   have hxL:(L.getD q69 AL)∈L:=QP ω
   have hxF:(L.getD q69 AL)∈Aw (Al F.E i):=by rw [hL];exact hxL
   have hxG:(L.getD q69 AL)∈Aw (Al G.E j):=by rw [hM,← hLM];exact hxL
   have hlF:=(CQ hF hxF).1
   have hlG:=(CQ hG hxG).1
   have hcF:=GY hF i (L.getD q69 AL)
   have hcG:=GY hG j (L.getD q69 AL)
   have hiso:∀ S,Iso S F G∧S i j→S (Au F i (L.getD q69 AL)) (Au G j (L.getD q69 AL)):=fun S h=>by obtain ⟨m',h1,h2⟩:=(h.1.e h.2 (L.getD q69 AL)).1 _ hlF;rw [hlG] at h1;exact (Option.some.inj h1) ▸ h2
   refine wp_region_lit<|mvs 4 h22 rfl fun _ h23=>?_
   obtain ⟨q94,hq2⟩:=AT (s4.get 0 rfl:Own _ _ _ _ _ _ _ _)
   refine sv1 h23 rfl (v:=.pointer (some ⟨q94,q69,none⟩)) (Ay h23 rfl rfl rfl (fun w=>ixO υ33 κ (sz:=1) (hq2 ω) (j:=q69) rfl ω ω w)) fun _ h24=>sw1 h24 rfl (v:=.string (L.getD q69 AL)) (rld h24 rfl rfl (BJ Ea υ9 rfl (s4.get 0 rfl:Own _ _ _ _ _ _ _ _) (hq2 ω) AL (j:=q69) (f:=0) ω (by decide) ω rfl)) fun _ h25=>cl h25 rfl AX (Fw (F:=F) (d:=i) (s4.pk [6,7,8,9,0,1,2,3,4,5,10] rfl) hzF hlF) fun _ v4 w6 r4 h26=>?_
   obtain ⟨rfl,s5⟩:=r4
   refine mv h26 rfl fun _ h27=>h27.sn [12,11,10,9,8,0,1,2,3] rfl fun h28=>hK12 _ _<|sqr fun _ hK13=>mvs 4 h28 rfl fun _ h29=>sv1 h29 rfl (v:=.pointer (some ⟨q94,q69,none⟩)) (Ay h29 rfl rfl rfl (fun w=>ixO υ33 κ (sz:=1) (hq2 ω) (j:=q69) rfl ω ω w)) fun _ h30=>sw1 h30 rfl (v:=.string (L.getD q69 AL)) (rld h30 rfl rfl (BJ Ea υ9 rfl (s5.get 4 rfl:Own _ _ _ _ _ _ _ _) (hq2 ω) AL (j:=q69) (f:=0) ω (by decide) ω rfl)) fun _ h31=>cl h31 rfl AX (Fw (F:=G) (d:=j) (s5.pk [6,7,8,9,0,1,2,3,4,5,10] rfl) hzG hlG) fun _ v5 w7 r5 h32=>?_
   obtain ⟨rfl,s6⟩:=r5
   refine mv h32 rfl fun _ h33=>h33.sn [13,12,11,10,9,8,0,1,2,3] rfl fun h34=>hK13 _ _<|sq fun _ hK14=>sq fun _ hK15=>?_
   have s7:=s6.drew
   refine wp_region_held_drew (S:=fun w'=>Sep w' [Ah dg 51 [.slice ma G.N.length mc,.slice ga G.E.length gc,.slice pa G.O.length pc],Ai 0 88 3 ma G.N.length mc (G.N.flatMap Ca),Ai 0 114 3 ga G.E.length gc (G.E.flatMap BU),Ai 0 93 3 pa G.O.length pc (G.O.flatMap BQ),Ah df 51 [.slice na F.N.length nc,.slice ea F.E.length ec,.slice oa F.O.length oc],Ai 0 88 3 na F.N.length nc (F.N.flatMap Ca),Ai 0 114 3 ea F.E.length ec (F.E.flatMap BU),Ai 0 93 3 oa F.O.length oc (F.O.flatMap BQ),Ai 0 9 1 sax11 L.length scx12 (L.flatMap sE),Ai 0 9 1 tax30 M.length tcx31 (M.flatMap sE),Ch.many R]) κ s7 (fun hq3=>?_)
   refine tv1 hq3 h34 0 rfl rfl (v:=π df) (fun w1 _=>(Aq h34 rfl rfl) w1) fun _ h35=>?_
   refine tv1 hq3 h35 1 rfl rfl (v:=π df) (fun w1 _=>(CJ h35 rfl rfl) w1) fun _ h36=>?_
   refine tv1 hq3 h36 2 rfl rfl (v:=π df) (fun w1 _=>(rfa h36 rfl rfl (fun w=>Ak df 0 w)) w1) fun _ h37=>?_
   refine tv1 hq3 h37 3 rfl rfl (v:=.slice na F.N.length nc) (fun w1 hSw=>(rld h37 rfl rfl (ldB υ47 rfl (hSw.get 4 rfl:Blk _ _ _ _) rfl))) fun _ h38=>?_
   refine tv1 hq3 h38 4 rfl rfl (v:=ν ((Au F i (L.getD q69 AL):Nat):Int)) (fun w1 _=>(Aq h38 rfl rfl) w1) fun _ h39=>?_
   obtain ⟨q147,hq4⟩:=AT (s7.get 5 rfl:Own _ _ _ _ _ _ _ _)
   refine tv1 hq3 h39 5 rfl rfl (v:=.pointer (some ⟨q147,(Au F i (L.getD q69 AL))*3,none⟩)) (fun w1 _=>(Ay h39 rfl rfl rfl (fun w=>ixO υ47 κ (sz:=3) (hq4 ω) (j:=Au F i (L.getD q69 AL)) rfl ω ω w)) w1) fun _ h40=>?_
   refine tv1 hq3 h40 6 rfl rfl (v:=.agg #[.bool ((F.N.getD (Au F i (L.getD q69 AL)) Ap).dir),σ ((F.N.getD (Au F i (L.getD q69 AL)) Ap).data),ν ((F.N.getD (Au F i (L.getD q69 AL)) Ap).links)]) (fun w1 hSw=>(rld h40 rfl rfl (Lj Bb υ88 rfl κ (hSw.get 5 rfl:Own _ _ _ _ _ _ _ _) (hq4 ω) Ap ω rfl))) fun _ h41=>?_
   refine tv1 hq3 h41 7 rfl rfl (v:=π dg) (fun w1 _=>(Aq h41 rfl rfl) w1) fun _ h42=>?_
   refine tv1 hq3 h42 8 rfl rfl (v:=π dg) (fun w1 _=>(CJ h42 rfl rfl) w1) fun _ h43=>?_
   refine tv1 hq3 h43 9 rfl rfl (v:=π dg) (fun w1 _=>(rfa h43 rfl rfl (fun w=>Ak dg 0 w)) w1) fun _ h44=>?_
   refine tv1 hq3 h44 10 rfl rfl (v:=.slice ma G.N.length mc) (fun w1 hSw=>(rld h44 rfl rfl (ldB υ47 rfl (hSw.get 0 rfl:Blk _ _ _ _) rfl))) fun _ h45=>?_
   refine tv1 hq3 h45 11 rfl rfl (v:=ν ((Au G j (L.getD q69 AL):Nat):Int)) (fun w1 _=>(Aq h45 rfl rfl) w1) fun _ h46=>?_
   obtain ⟨q163,hq5⟩:=AT (s7.get 1 rfl:Own _ _ _ _ _ _ _ _)
   refine tv1 hq3 h46 12 rfl rfl (v:=.pointer (some ⟨q163,(Au G j (L.getD q69 AL))*3,none⟩)) (fun w1 _=>(Ay h46 rfl rfl rfl (fun w=>ixO υ47 κ (sz:=3) (hq5 ω) (j:=Au G j (L.getD q69 AL)) rfl ω ω w)) w1) fun _ h47=>?_
   refine tv1 hq3 h47 13 rfl rfl (v:=.agg #[.bool ((G.N.getD (Au G j (L.getD q69 AL)) Ap).dir),σ ((G.N.getD (Au G j (L.getD q69 AL)) Ap).data),ν ((G.N.getD (Au G j (L.getD q69 AL)) Ap).links)]) (fun w1 hSw=>(rld h47 rfl rfl (Lj Bb υ88 rfl κ (hSw.get 1 rfl:Own _ _ _ _ _ _ _ _) (hq5 ω) Ap ω rfl))) fun _ h48=>?_
   refine tv1 hq3 h48 14 rfl rfl (v:=.bool (!((((F.N.getD (Au F i (L.getD q69 AL)) Ap).dir) == ((G.N.getD (Au G j (L.getD q69 AL)) Ap).dir))&&(((Ad ((F.N.getD (Au F i (L.getD q69 AL)) Ap).data)).toList == (Ad ((G.N.getD (Au G j (L.getD q69 AL)) Ap).data)).toList)&&(decide ((F.N.getD (Au F i (L.getD q69 AL)) Ap).links=(G.N.getD (Au G j (L.getD q69 AL)) Ap).links)))))) (fun w1 _=>(BF h48 rfl rfl rfl (Fm _ _ ((F.N.getD (Au F i (L.getD q69 AL)) Ap).dir) (Ad ((F.N.getD (Au F i (L.getD q69 AL)) Ap).data)) ((F.N.getD (Au F i (L.getD q69 AL)) Ap).links) ((G.N.getD (Au G j (L.getD q69 AL)) Ap).dir) (Ad ((G.N.getD (Au G j (L.getD q69 AL)) Ap).data)) ((G.N.getD (Au G j (L.getD q69 AL)) Ap).links))) w1) fun _ h49=>?_
   refine h49.sk [59,13,12,11,10,9,8,0,1,2,3] rfl fun h50=>?_
   refine wpAnyH_done κ ?_ _
   refine hK15 _ _ ?_
   rcases bC ((((F.N.getD (Au F i (L.getD q69 AL)) Ap).dir) == ((G.N.getD (Au G j (L.getD q69 AL)) Ap).dir))&&(((Ad ((F.N.getD (Au F i (L.getD q69 AL)) Ap).data)).toList == (Ad ((G.N.getD (Au G j (L.getD q69 AL)) Ap).data)).toList)&&(decide ((F.N.getD (Au F i (L.getD q69 AL)) Ap).links=(G.N.getD (Au G j (L.getD q69 AL)) Ap).links)))) with hc3 | hc3
   ·skip
    have hp3:((((F.N.getD (Au F i (L.getD q69 AL)) Ap).dir) == ((G.N.getD (Au G j (L.getD q69 AL)) Ap).dir))=true)∧((((Ad ((F.N.getD (Au F i (L.getD q69 AL)) Ap).data)).toList == (Ad ((G.N.getD (Au G j (L.getD q69 AL)) Ap).data)).toList)=true)∧((F.N.getD (Au F i (L.getD q69 AL)) Ap).links=(G.N.getD (Au G j (L.getD q69 AL)) Ap).links)):=(And.intro (AA hc3).1 (And.intro (AA (AA hc3).2).1 (dT (AA (AA hc3).2).2)))
    refine wcF h50 rfl (Bq hc3)<|h50.sk [13,12,11,10,9,8,0,1,2,3] rfl fun h51=>wp_skip<|hK14 _ _<|sqr fun _ hK16=>mvs 2 h51 rfl fun _ h52=>fav h52 rfl (Ak _ _) fun _ h53=>ldv h53 s7 4 υ47 rfl rfl rfl rfl fun _ h54=>mv h54 rfl fun _ h55=>sv1 h55 rfl (v:=.pointer (some ⟨q147,(Au F i (L.getD q69 AL))*3,none⟩)) (Ay h55 rfl rfl rfl (fun w=>ixO υ47 κ (sz:=3) (hq4 ω) (j:=Au F i (L.getD q69 AL)) rfl ω ω w)) fun _ h56=>sv1 h56 rfl (v:=.pointer (some ⟨q147,(Au F i (L.getD q69 AL))*3+0,none⟩)) (rfa h56 rfl rfl (fun w=>AC q147 ((Au F i (L.getD q69 AL))*3) w)) fun _ h57=>?_
    refine sw1 h57 rfl (v:=.bool ((F.N.getD (Au F i (L.getD q69 AL)) Ap).dir)) (rld h57 rfl rfl (BJ Bb υ4 rfl (s7.get 5 rfl:Own _ _ _ _ _ _ _ _) (hq4 ω) Ap (j:=(Au F i (L.getD q69 AL))) (f:=0) ω (by decide) rfl rfl)) fun _ h58=>h58.sn [67,13,12,11,10,9,8,0,1,2,3] rfl fun h59=>hK16 _ _ ?_
    rcases bC ((F.N.getD (Au F i (L.getD q69 AL)) Ap).dir) with hc4 | hc4
    ·skip
     refine wcT h59 rfl hc4<|h59.sk [13,12,11,10,9,8,0,1,2,3] rfl fun h60=>sqr fun _ hK17=>mvs 4 h60 rfl fun _ h61=>cl h61 rfl Fq (ih (i:=Au F i (L.getD q69 AL)) (j:=Au G j (L.getD q69 AL)) (Fuel.sub hF hfu hxF) hc4 hcF hcG (s7.pk [4,5,6,7,0,1,2,3,8,9,10] rfl)) fun _ v6 w8 r6 h62=>?_
     obtain ⟨bbx205,rfl,s8,hrec210⟩:=r6
     refine mv h62 rfl fun _ h63=>h63.sn [14,13,12,11,10,9,8,0,1,2,3] rfl fun h64=>hK17 _ _<|sqr fun _ hK18=>mvs 2 h64 rfl fun _ h65=>h65.sn [74,14,13,12,11,10,9,8,0,1,2,3] rfl fun h66=>hK18 _ _ ?_
     rcases bC bbx205 with hc5 | hc5
     ·skip
      refine wcF h66 rfl (Bq hc5)<|h66.sk [14,13,12,11,10,9,8,0,1,2,3] rfl fun h67=>wp_skip<|hK11 _ _<|wp_region_lit<|mv h67 rfl fun _ h68=>bv h68 (z:=ν ((q69+1:Nat):Int)) rfl (DG _ _ _ ω ω ω) fun _ h69=>h69.sk [30,29,14,13,12,10,9,8,0,1,2,3] rfl fun h70=>mv h70 rfl fun _ h71=>h71.sk [11,14,13,12,10,9,8,0,1,2,3] rfl fun h72=>wpList_nil ?_
      exact hK8 (q69+1) _ _ ⟨h72.subs rfl,(s8.pk [8,9,4,5,6,7,0,1,2,3,10] rfl),ω⟩ ω
     ·skip
      refine wcT h66 rfl (Bt hc5)<|h66.sk [14,13,12,11,10,9,8,0,1,2,3] rfl fun h73=>sqr fun _ hK19=>h73.sk [14,13,12,11,10,9,0,1,2,3] rfl fun h74=>mv h74 rfl fun _ h75=>wpList_nil<|hK19 _ _<|wp_ret ?_
      try simp only [Exit.then,Exit.inBlock]
      refine Bi (v:=.bool false) (Ce h75 rfl rfl) h75.defs ?_
      exact ⟨false,rfl,Sep.tail_un (xs:=[_,_,_,_,_,_,_,_]) (s8.pk [0,1,2,3,4,5,6,7,10] rfl),fun ⟨S,h⟩=>(by have z:=hrec210 ⟨S,h.1,hiso S h⟩;rw [hc5] at z;cases z)⟩
    ·skip
     refine wcF h59 rfl hc4<|h59.sk [13,12,11,10,9,8,0,1,2,3] rfl fun h76=>wp_skip<|hK11 _ _<|wp_region_lit<|mv h76 rfl fun _ h77=>bv h77 (z:=ν ((q69+1:Nat):Int)) rfl (DG _ _ _ ω ω ω) fun _ h78=>h78.sk [30,29,13,12,10,9,8,0,1,2,3] rfl fun h79=>mv h79 rfl fun _ h80=>h80.sk [11,13,12,10,9,8,0,1,2,3] rfl fun h81=>wpList_nil ?_
     exact hK8 (q69+1) _ _ ⟨h81.subs rfl,(s7.pk [8,9,0,1,2,3,4,5,6,7,10] rfl),ω⟩ ω
   ·skip
    have hp4:((((F.N.getD (Au F i (L.getD q69 AL)) Ap).dir) == ((G.N.getD (Au G j (L.getD q69 AL)) Ap).dir))=false)∨((((Ad ((F.N.getD (Au F i (L.getD q69 AL)) Ap).data)).toList == (Ad ((G.N.getD (Au G j (L.getD q69 AL)) Ap).data)).toList)=false)∨(¬ ((F.N.getD (Au F i (L.getD q69 AL)) Ap).links=(G.N.getD (Au G j (L.getD q69 AL)) Ap).links))):=((IG hc3).imp (fun q=>q) (fun q=>((IG q).imp (fun q=>q) (fun q=>(dF q)))))
    refine wcT h50 rfl (Bt hc3)<|h50.sk [13,12,11,10,9,8,0,1,2,3] rfl fun h82=>sqr fun _ hK20=>h82.sk [13,12,11,10,9,0,1,2,3] rfl fun h83=>mv h83 rfl fun _ h84=>wpList_nil<|hK20 _ _<|wp_ret ?_
    try simp only [Exit.then,Exit.inBlock]
    refine Bi (v:=.bool false) (Ce h84 rfl rfl) h84.defs ?_
    exact ⟨false,rfl,Sep.tail_un (xs:=[_,_,_,_,_,_,_,_]) (s7.pk [4,5,6,7,0,1,2,3,10] rfl),fun ⟨S,h⟩=>Bool.noConfusion (hc3.symm.trans (Tu (h.1.nd (hiso S h))))⟩
  ·skip
   have hp5:¬ ((q69:Int)<(L.length:Int)):=(dF hc2)
   refine wcF h21 rfl hc2<|h21.sk [11,10,9,8,0,1,2,3] rfl fun h85=>wp_exit ?_
   refine hK5 _ _ ?_
   refine sqr fun _ hK21=>h85.sk [11,10,9,0,1,2,3] rfl fun h86=>mv h86 rfl fun _ h87=>wpList_nil<|hK21 _ _<|wp_ret ?_
   try simp only [Exit.then,Exit.inBlock]
   refine Bi (v:=.bool true) (Ce h87 rfl rfl) h87.defs ?_
   exact ⟨true,rfl,Sep.tail_un (xs:=[_,_,_,_,_,_,_,_]) (s4.pk [6,7,8,9,2,3,4,5,10] rfl),fun _=>rfl⟩
 ·skip
  have hp6:¬ (L=M):=(dF hc1)
  refine wcT h14 rfl (Bt hc1)<|h14.sk [10,9,8,0,1,2,3] rfl fun h88=>sqr fun _ hK22=>h88.sk [10,9,0,1,2,3] rfl fun h89=>mv h89 rfl fun _ h90=>wpList_nil<|hK22 _ _<|wp_ret ?_
  try simp only [Exit.then,Exit.inBlock]
  refine Bi (v:=.bool false) (Ce h90 rfl rfl) h90.defs ?_
  exact ⟨false,rfl,Sep.tail_un (xs:=[_,_,_,_,_,_,_,_]) (s3.pk [6,7,8,9,2,3,4,5,10] rfl),fun ⟨S,h⟩=>absurd (by rw [← hL,← hM];exact h.1.names hF hG h.2) (dF hc1)⟩
theorem KU {df dg:Nat} {na ea oa ma ga pa:Option Addr} {nc ec oc mc gc pc:Nat} {F G:FsM} {δ δ2:Nat→Int} (hF:FsC F δ) (hG:FsC G δ2) (hzF:SmF F) (hzG:SmF G):∀ (n:Nat) {w:World} {i j:Nat} {R:List Ch},Fuel F n i→F.dir i=true→i<F.N.length→j<G.N.length→Sep w ([Ah df 51 [.slice na F.N.length nc,.slice ea F.E.length ec,.slice oa F.O.length oc],Ai 0 88 3 na F.N.length nc (F.N.flatMap Ca),Ai 0 114 3 ea F.E.length ec (F.E.flatMap BU),Ai 0 93 3 oa F.O.length oc (F.O.flatMap BQ),Ah dg 51 [.slice ma G.N.length mc,.slice ga G.E.length gc,.slice pa G.O.length pc],Ai 0 88 3 ma G.N.length mc (G.N.flatMap Ca),Ai 0 114 3 ga G.E.length gc (G.E.flatMap BU),Ai 0 93 3 pa G.O.length pc (G.O.flatMap BQ)]++R)→CallsR Tryz.prog 19 #[π df,ν (i:Int),π dg,ν (j:Int)] w (fun v w'=>∃ b,v=.bool b∧Sep w' ([Ah df 51 [.slice na F.N.length nc,.slice ea F.E.length ec,.slice oa F.O.length oc],Ai 0 88 3 na F.N.length nc (F.N.flatMap Ca),Ai 0 114 3 ea F.E.length ec (F.E.flatMap BU),Ai 0 93 3 oa F.O.length oc (F.O.flatMap BQ),Ah dg 51 [.slice ma G.N.length mc,.slice ga G.E.length gc,.slice pa G.O.length pc],Ai 0 88 3 ma G.N.length mc (G.N.flatMap Ca),Ai 0 114 3 ga G.E.length gc (G.E.flatMap BU),Ai 0 93 3 pa G.O.length pc (G.O.flatMap BQ)]++R)∧((∃ S,Iso S F G∧S i j)→b=true))
 | n,w,i,j,R,hfu,hd,hi,hj,hS=>by
  obtain ⟨m,rfl⟩:=hfu.pos hF hd
  exact Nb hF hG hzF hzG hS hi hj hfu (fun a b c d e=>KU hF hG hzF hzG m a b c d e)
termination_by n=>n
end
section
open Go.WideShapes Go.ChangeShapes Go.Deep in
theorem open_askV {H:Type} {enc:TypeId×Value→H} {W:World} {base base':Nat} {held:Bool} {v:Value} {d:DataW H} {p:List MemPlace}
  (hv:Value.okWide Tryz.prog W .any base' 44 v) (h:DataW.Trod enc Tryz.prog W base (fun _=>true) held 44 v d p):∃ a:AskV,v=.agg (HW a).toArray∧a.wf:=by
 obtain ⟨cs,rfl,hsz⟩:=okWide_struct υ44 hv
 have k1:Tryz.prog.cellsOf 44=10:=κ
 obtain ⟨fuel,hf⟩:=h
 have h1:cs.toList.length=10:=by rw [Array.length_toList];exact hsz.trans k1
 obtain ⟨a,e,wa⟩:=LI fuel cs.toList _ h1 hf
 exact ⟨a,by rw [← e],wa⟩
structure OkS (F:FsM) (n:Nat):Prop where
 ok:FsOk F
 sz:SzF F n
theorem LL {W w:World} {R:List Ch} {a0:Option Addr} {n0 c0 most:Nat} {f:Nat→AskV} {F:FsM} (hS0:Sep w ([Iy W W.heap.size]++R)) (rb:LV W a0 n0 c0 f) (hm:most≤60) (hE:F=Cc f (min n0 most)) :
  CallsR Tryz.prog 11 #[.slice a0 n0 c0,ν (most:Int)] w (fun v w'=>∃ cf ob A df na nc ea ec oa oc,v=.tuple #[π cf,π df,.bool true]∧Sep w' ((cP cf ob F A)++(dP df na nc ea ec oa oc F)++[Iy W W.heap.size]++R)∧FsA F A most):=by
 subst hE
 exact Calls.mono (Rp hS0 rb hm) fun e W' ⟨v,e1,cf,ob,A,df,na,nc,ea,ec,oa,oc,e2,s,hA⟩=>⟨v,e1,cf,ob,A,df,na,nc,ea,ec,oa,oc,e2,s,⟨FX _ _,(FY f _).le (Nat.min_le_right _ _),hA.le (Nat.min_le_right _ _)⟩⟩
theorem Ob (L M:List RowM):Er L M=Er M L:=by
 cases h:Er M L with
 | true=>exact DL.2 (DL.1 h).symm
 | false=>exact Bool.eq_false_iff.2 fun q=>by rw [DL.2 (DL.1 q).symm] at h;cases h
theorem Tp {F:FsM} (h:SmF F):Fuel F 1000 0:=fun _=>⟨[],rfl,by have:=h.1;show F.N.length≤1000+0;omega⟩
theorem Sw {F:FsM} {δ:Nat→Int} (hF:FsC F δ):F.O.length=(DS F).length:=by
 have nd:(F.O.map fun o=>(o.cl,o.fd)).Nodup:=(List.pairwise_map.2 (hF.od.imp fun {a b} h e=>h ⟨(Prod.mk.inj e).1,(Prod.mk.inj e).2⟩))
 have h1:=Ep nd (B:=DS F) fun p hp=>by
  obtain ⟨o,ho,rfl⟩:=List.mem_map.1 hp
  exact (DX hF).2 (by unfold Az;rw [Option.isSome_map,List.find?_isSome];exact ⟨o,ho,by simp⟩)
 have h2:=Ep (Oz F) (B:=F.O.map fun o=>(o.cl,o.fd)) fun p hp=>by
  obtain ⟨m,hm⟩:=Option.isSome_iff_exists.1 ((DX hF).1 hp)
  obtain ⟨o,ho,e1,e2,_⟩:=Gr hm
  exact List.mem_map.2 ⟨o,ho,by rw [e1,e2]⟩
 rw [List.length_map] at h1 h2;omega
theorem Iso.olen {S:Nat→Nat→Prop} {F G:FsM} {δ δ2:Nat→Int} (h:Iso S F G) (hF:FsC F δ) (hG:FsC G δ2):F.O.length=G.O.length:=by rw [Sw hF,Sw hG,h.fds]
theorem DT (args:Array Value) (w:World):(callFunc 17 args).run Tryz.prog w=.ok (.enter 17 args) w:=by
 have h:=Tryz.func17
 go_simp
theorem Fk (args:Array Value) (w:World):(callFunc 19 args).run Tryz.prog w=.ok (.enter 19 args) w:=by
 have h:=Tryz.func19
 go_simp
theorem PosixSame_walk (W:World) (a0:Option Addr) (n0 c0:Nat) (f:Nat→AskV) (rb:LV W a0 n0 c0 f) (xa:AskV) (wa:xa.wf) (xb:AskV) (wb:xb.wf) (xl:AskV) (wl:xl.wf) :
  Calls Tryz.prog 6 #[.slice a0 n0 c0,.agg (HW xa).toArray,.agg (HW xb).toArray,.agg (HW xl).toArray] W fun e W'=>e=.returned (.bool true)∧Below W.heap.size W W':=by
 obtain ⟨F,hE⟩:∃ F,F=Cc f (min n0 20):=⟨_,rfl⟩
 have hA0:OkS F 20:=by rw [hE];exact ⟨FX _ _,(FY f _).le (Nat.min_le_right _ _)⟩
 have hR0:Reach F:=by rw [hE];exact KR f _
 have hN0:DirNil F:=by rw [hE];exact JK f _
 obtain ⟨F1,r1,hF1⟩:∃ G r,doF F xa.cl (Ar xa.x)=(G,r):=⟨_,_,rfl⟩
 obtain ⟨G1,r2,hG1⟩:∃ G r,doF F xb.cl (Ar xb.x)=(G,r):=⟨_,_,rfl⟩
 have rF1:Reach F1:=by have z:=hR0.do_ hA0.ok xa.cl (Ar xa.x);rw [hF1] at z;exact z
 have rG1:Reach G1:=by have z:=hR0.do_ hA0.ok xb.cl (Ar xb.x);rw [hG1] at z;exact z
 have nF1:DirNil F1:=by have z:=hN0.do_ hA0.ok xa.cl (Ar xa.x);rw [hF1] at z;exact z
 have nG1:DirNil G1:=by have z:=hN0.do_ hA0.ok xb.cl (Ar xb.x);rw [hG1] at z;exact z
 have hS:Sep W [Iy W W.heap.size]:=Sep.start W
 suffices hZ:CallsR Tryz.prog 6 #[.slice a0 n0 c0,.agg (HW xa).toArray,.agg (HW xb).toArray,.agg (HW xl).toArray] W (fun v W'=>v=.bool true∧Below W.heap.size W W') from Calls.mono hZ fun e W' ⟨v,e1,e2,h⟩=>⟨by rw [e1,e2],h⟩
 refine AE Tryz.func6 rfl (N:=122) Tryz.ntmps6 (by show 4≤122;decide) [(0,.slice a0 n0 c0),(1,.agg #[ν xa.cl,ν xa.x.kind,σ xa.x.p1,σ xa.x.p2,ν xa.x.fl,ν xa.x.fd,ν xa.x.off,ν xa.x.n,σ xa.x.data,.bool xa.drop]),(2,.agg #[ν xb.cl,ν xb.x.kind,σ xb.x.p1,σ xb.x.p2,ν xb.x.fl,ν xb.x.fd,ν xb.x.off,ν xb.x.n,σ xb.x.data,.bool xb.drop]),(3,.agg #[ν xl.cl,ν xl.x.kind,σ xl.x.p1,σ xl.x.p2,ν xl.x.fl,ν xl.x.fd,ν xl.x.off,ν xl.x.n,σ xl.x.data,.bool xl.drop])] rfl fun _ h1=>sqr fun _ hK3=>so (wn rfl) fun _ hK1=>Dc h1 rfl rfl rfl rfl rfl (z:=[ν xa.cl,ν xa.x.kind,σ xa.x.p1,σ xa.x.p2,ν xa.x.fl,ν xa.x.fd,ν xa.x.off,ν xa.x.n,σ xa.x.data,.bool xa.drop]) rfl hS fun _ g4 w7 h5 s8 _ _=>hK1 _ _ ?_
 refine so (wn rfl) fun _ hK2=>Dc h5 rfl rfl rfl rfl rfl (z:=[ν xb.cl,ν xb.x.kind,σ xb.x.p1,σ xb.x.p2,ν xb.x.fl,ν xb.x.fd,ν xb.x.off,ν xb.x.n,σ xb.x.data,.bool xb.drop]) rfl s8 fun _ g1 w2 h2 s1 _ _=>hK2 _ _ ?_
 refine so (wn rfl) fun _ hK4=>Dc h2 rfl rfl rfl rfl rfl (z:=[ν xl.cl,ν xl.x.kind,σ xl.x.p1,σ xl.x.p2,ν xl.x.fl,ν xl.x.fd,ν xl.x.off,ν xl.x.n,σ xl.x.data,.bool xl.drop]) rfl s1 fun _ g2 w3 h3 s2 _ _=>hK4 _ _ ?_
 refine mv h3 rfl fun _ h4=>wpList_nil<|hK3 _ _<|sqr fun _ hK5=>mv h4 rfl fun _ h6=>cl h6 rfl EG (LL (most:=20) (s2.pk [3,0,1,2] rfl) rb (by decide) hE) fun _ v1 w4 r5 h7=>?_
 obtain ⟨cf,ob,Ax33,df,nax34,ncx35,eax36,ecx37,oax38,ocx39,rfl,s3,hA44⟩:=r5
 refine mvs 7 h7 rfl fun _ h8=>h8.sn [11,10,9,8,7,6,5,0,1,2,3] rfl fun h9=>hK5 _ _<|sqr fun _ hK6=>mv h9 rfl fun _ h10=>cl h10 rfl EG (LL (most:=20) (s3.pk [7,0,1,2,3,4,5,6,8,9,10] rfl) rb (by decide) hE) fun _ v2 w5 r6 h11=>?_
 obtain ⟨cgx65,ogx66,Ax67,dgx68,nax69,ncx70,eax71,ecx72,oax73,ocx74,rfl,s4,hA79⟩:=r6
 refine mvs 7 h11 rfl fun _ h12=>h12.sn [14,13,12,11,10,9,8,7,6,5,0,1,2,3] rfl fun h13=>hK6 _ _<|sq fun _ hK7=>sqr fun _ hK8=>mvs 3 h13 rfl fun _ h14=>sv h14 (wF h14 (E:=false) rfl rfl rfl) rfl rfl rfl (v:=.bool true) (Aq h14 rfl rfl) fun _ h15=>sv h15 (wF h15 (E:=false) rfl rfl rfl) rfl rfl rfl (v:=.bool false) (Oa h15 rfl (b:=true) rfl) fun _ h16=>sv1 h16 rfl (v:=.bool false) (Eh h16 rfl rfl rfl) fun _ h17=>h17.sn [36,14,13,12,11,10,9,8,7,6,5,0,1,2,3] rfl fun h18=>hK8 _ _ ?_
 refine wcF h18 rfl rfl<|h18.sk [14,13,12,11,10,9,8,7,6,5,0,1,2,3] rfl fun h19=>wp_skip<|hK7 _ _<|sq fun _ hK9=>?_
 have s5:=s4.drew
 refine wp_region_held_drew (S:=fun w'=>Sep w' [Ah cgx65 65 [π (Ax67.ad 0),.map (some ogx66)],AO F Ax67,AP KO ogx66 Ax67.C (opG F Ax67),Ah dgx68 51 [.slice nax69 F.N.length ncx70,.slice eax71 F.E.length ecx72,.slice oax73 F.O.length ocx74],Ai 0 88 3 nax69 F.N.length ncx70 (F.N.flatMap Ca),Ai 0 114 3 eax71 F.E.length ecx72 (F.E.flatMap BU),Ai 0 93 3 oax73 F.O.length ocx74 (F.O.flatMap BQ),Iy W W.heap.size,Ah df 51 [.slice nax34 F.N.length ncx35,.slice eax36 F.E.length ecx37,.slice oax38 F.O.length ocx39],Ai 0 88 3 nax34 F.N.length ncx35 (F.N.flatMap Ca),Ai 0 114 3 eax36 F.E.length ecx37 (F.E.flatMap BU),Ai 0 93 3 oax38 F.O.length ocx39 (F.O.flatMap BQ),Ah g2 44 [ν xl.cl,ν xl.x.kind,σ xl.x.p1,σ xl.x.p2,ν xl.x.fl,ν xl.x.fd,ν xl.x.off,ν xl.x.n,σ xl.x.data,.bool xl.drop],Ah g1 44 [ν xb.cl,ν xb.x.kind,σ xb.x.p1,σ xb.x.p2,ν xb.x.fl,ν xb.x.fd,ν xb.x.off,ν xb.x.n,σ xb.x.data,.bool xb.drop],Ah g4 44 [ν xa.cl,ν xa.x.kind,σ xa.x.p1,σ xa.x.p2,ν xa.x.fl,ν xa.x.fd,ν xa.x.off,ν xa.x.n,σ xa.x.data,.bool xa.drop]]) κ (s5.pk [0,1,2,3,4,5,6,7,11,12,13,14,15,16,17] rfl) (fun hq3=>?_)
 refine tv1 hq3 h19 0 rfl rfl (v:=π cf) (fun w1 _=>(Aq h19 rfl rfl) w1) fun _ h20=>?_
 refine tv1 hq3 h20 1 rfl rfl (v:=π g4) (fun w1 _=>(rfa h20 rfl rfl (fun w=>Bn g4 0 w)) w1) fun _ h21=>?_
 refine tv1 hq3 h21 2 rfl rfl (v:=ν xa.cl) (fun w1 hSw=>(rld h21 rfl rfl (ldB υ3 rfl (hSw.get 14 rfl:Blk _ _ _ _) rfl))) fun _ h22=>?_
 refine tv1 hq3 h22 3 rfl rfl (v:=.pointer (some ⟨g4,1,none⟩)) (fun w1 _=>(rfa h22 rfl rfl (fun w=>Cg g4 0 w)) w1) fun _ h23=>?_
 refine tv1 hq3 h23 4 rfl rfl (v:=.agg #[ν xa.x.kind,σ xa.x.p1,σ xa.x.p2,ν xa.x.fl,ν xa.x.fd,ν xa.x.off,ν xa.x.n,σ xa.x.data]) (fun w1 hSw=>(rld h23 rfl rfl (ldA υ30 rfl (n:=8) κ (hSw.get 14 rfl:Blk _ _ _ _) rfl rfl))) fun _ h24=>?_
 refine to_ 5 rfl (wn rfl) κ fun _ hK10=>CK h24 rfl rfl rfl (xs:=[.tmp 41]) rfl Cy rfl (vs:=[.agg #[ν xa.x.kind,σ xa.x.p1,σ xa.x.p2,ν xa.x.fl,ν xa.x.fd,ν xa.x.off,ν xa.x.n,σ xa.x.data]]) rfl (args:=#[.agg #[ν xa.x.kind,σ xa.x.p1,σ xa.x.p2,ν xa.x.fl,ν xa.x.fd,ν xa.x.off,ν xa.x.n,σ xa.x.data]]) rfl (Lz s5 xa.x) fun _ v3 w6 r7 h25=>?_
 obtain ⟨rfl,s6⟩:=r7
 refine hK10 _ _ (s6.pk [0,1,2,3,4,5,6,7,11,12,13,14,15,16,17] rfl) fun hq4=>?_
 refine to_ 6 rfl (wn rfl) κ fun _ hK11=>CK h25 rfl rfl rfl (xs:=[.tmp 37,.tmp 39,.tmp 42]) rfl BM rfl (vs:=[π cf,ν xa.cl,.agg #[ν ((Ar xa.x).kind),σ ((Ar xa.x).p1),σ ((Ar xa.x).p2),ν ((Ar xa.x).fl),ν ((Ar xa.x).fd),ν ((Ar xa.x).off),ν ((Ar xa.x).n),σ ((Ar xa.x).data)]]) rfl (args:=#[π cf,ν xa.cl,.agg #[ν ((Ar xa.x).kind),σ ((Ar xa.x).p1),σ ((Ar xa.x).p2),ν ((Ar xa.x).fl),ν ((Ar xa.x).fd),ν ((Ar xa.x).off),ν ((Ar xa.x).n),σ ((Ar xa.x).data)]]) rfl (Oy (cf:=cf) (A:=Ax33) (F:=F) (n:=20) (x:=(Ar xa.x)) (G:=F1) (r:=r1) (s6.pk [8,9,10,0,1,2,3,4,5,6,7,11,12,13,14,15,16,17] rfl) hA44 ω (Nat.le_trans (Ha _) ω) (Nat.le_trans (Hb _) ω) (Nat.le_trans (JC _) ω) wa.2.2.2.1 hF1) fun _ v4 w8 r8 h26=>?_
 obtain ⟨Ax135,sax136,scx137,rfl,s7,hA142⟩:=r8
 refine hK11 _ _ (s7.pk [4,5,6,7,8,9,10,11,12,13,14,15,16,17,18] rfl) fun hq5=>h26.sk [14,13,12,11,10,9,8,7,6,5,0,1,2,3] rfl fun h27=>?_
 refine wpAnyH_done κ ?_ _
 refine hK9 _ _ ?_
 refine sq fun _ hK12=>?_
 have s9:=s7.drew
 refine wp_region_held_drew (S:=fun w'=>Sep w' [Ai 0 9 1 sax136 r1.names.length scx137 (r1.names.flatMap sE),Ah cf 65 [π (Ax135.ad 0),.map (some ob)],AO F1 Ax135,AP KO ob Ax135.C (opG F1 Ax135),Ah cgx65 65 [π (Ax67.ad 0),.map (some ogx66)],AO F Ax67,AP KO ogx66 Ax67.C (opG F Ax67),Ah dgx68 51 [.slice nax69 F.N.length ncx70,.slice eax71 F.E.length ecx72,.slice oax73 F.O.length ocx74],Ai 0 88 3 nax69 F.N.length ncx70 (F.N.flatMap Ca),Ai 0 114 3 eax71 F.E.length ecx72 (F.E.flatMap BU),Ai 0 93 3 oax73 F.O.length ocx74 (F.O.flatMap BQ),Iy W W.heap.size,Ah g2 44 [ν xl.cl,ν xl.x.kind,σ xl.x.p1,σ xl.x.p2,ν xl.x.fl,ν xl.x.fd,ν xl.x.off,ν xl.x.n,σ xl.x.data,.bool xl.drop],Ah g1 44 [ν xb.cl,ν xb.x.kind,σ xb.x.p1,σ xb.x.p2,ν xb.x.fl,ν xb.x.fd,ν xb.x.off,ν xb.x.n,σ xb.x.data,.bool xb.drop],Ah g4 44 [ν xa.cl,ν xa.x.kind,σ xa.x.p1,σ xa.x.p2,ν xa.x.fl,ν xa.x.fd,ν xa.x.off,ν xa.x.n,σ xa.x.data,.bool xa.drop]]) κ (s9.pk [0,1,2,3,4,5,6,7,8,9,10,11,16,17,18] rfl) (fun hq6=>?_)
 refine tv1 hq6 h27 0 rfl rfl (v:=π df) (fun w1 _=>(Aq h27 rfl rfl) w1) fun _ h28=>?_
 refine tv1 hq6 h28 1 rfl rfl (v:=π g4) (fun w1 _=>(rfa h28 rfl rfl (fun w=>Bn g4 0 w)) w1) fun _ h29=>?_
 refine tv1 hq6 h29 2 rfl rfl (v:=ν xa.cl) (fun w1 hSw=>(rld h29 rfl rfl (ldB υ3 rfl (hSw.get 14 rfl:Blk _ _ _ _) rfl))) fun _ h30=>?_
 refine tv1 hq6 h30 3 rfl rfl (v:=.pointer (some ⟨g4,1,none⟩)) (fun w1 _=>(rfa h30 rfl rfl (fun w=>Cg g4 0 w)) w1) fun _ h31=>?_
 refine tv1 hq6 h31 4 rfl rfl (v:=.agg #[ν xa.x.kind,σ xa.x.p1,σ xa.x.p2,ν xa.x.fl,ν xa.x.fd,ν xa.x.off,ν xa.x.n,σ xa.x.data]) (fun w1 hSw=>(rld h31 rfl rfl (ldA υ30 rfl (n:=8) κ (hSw.get 14 rfl:Blk _ _ _ _) rfl rfl))) fun _ h32=>?_
 refine to_ 5 rfl (wn rfl) κ fun _ hK13=>CK h32 rfl rfl rfl (xs:=[.tmp 48]) rfl Cy rfl (vs:=[.agg #[ν xa.x.kind,σ xa.x.p1,σ xa.x.p2,ν xa.x.fl,ν xa.x.fd,ν xa.x.off,ν xa.x.n,σ xa.x.data]]) rfl (args:=#[.agg #[ν xa.x.kind,σ xa.x.p1,σ xa.x.p2,ν xa.x.fl,ν xa.x.fd,ν xa.x.off,ν xa.x.n,σ xa.x.data]]) rfl (Lz s9 xa.x) fun _ v5 w9 r9 h33=>?_
 obtain ⟨rfl,s10⟩:=r9
 refine hK13 _ _ (s10.pk [0,1,2,3,4,5,6,7,8,9,10,11,16,17,18] rfl) fun hq7=>?_
 refine to_ 6 rfl (wn rfl) κ fun _ hK14=>CK h33 rfl rfl rfl (xs:=[.tmp 44,.tmp 46,.tmp 49]) rfl DP rfl (vs:=[π df,ν xa.cl,.agg #[ν ((Ar xa.x).kind),σ ((Ar xa.x).p1),σ ((Ar xa.x).p2),ν ((Ar xa.x).fl),ν ((Ar xa.x).fd),ν ((Ar xa.x).off),ν ((Ar xa.x).n),σ ((Ar xa.x).data)]]) rfl (args:=#[π df,ν xa.cl,.agg #[ν ((Ar xa.x).kind),σ ((Ar xa.x).p1),σ ((Ar xa.x).p2),ν ((Ar xa.x).fl),ν ((Ar xa.x).fd),ν ((Ar xa.x).off),ν ((Ar xa.x).n),σ ((Ar xa.x).data)]]) rfl ((by have z:=Ma (F:=F) (c:=xa.cl) (x:=(Ar xa.x)) (s10.pk [12,13,14,15,0,1,2,3,4,5,6,7,8,9,10,11,16,17,18] rfl) (hA0.sz.ss ω) hA0.ok (Nat.le_trans (Ha _) ω) (Nat.le_trans (Hb _) ω) (Nat.le_trans (JC _) ω);rw [hF1] at z;exact z)) fun _ v6 w10 r10 h34=>?_
 obtain ⟨tax168,tcx169,nax170,ncx171,eax172,ecx173,oax174,ocx175,rfl,s11⟩:=r10
 refine hK14 _ _ (s11.pk [5,6,7,8,9,10,11,12,13,14,15,16,17,18,19] rfl) fun hq8=>h34.sk [14,13,12,11,10,9,8,7,6,5,0,1,2,3] rfl fun h35=>?_
 refine wpAnyH_done κ ?_ _
 refine hK12 _ _ ?_
 refine sq fun _ hK15=>?_
 have s12:=s11.drew
 refine wp_region_held_drew (S:=fun w'=>Sep w' [Ai 0 9 1 tax168 r1.names.length tcx169 (r1.names.flatMap sE),Ah df 51 [.slice nax170 F1.N.length ncx171,.slice eax172 F1.E.length ecx173,.slice oax174 F1.O.length ocx175],Ai 0 88 3 nax170 F1.N.length ncx171 (F1.N.flatMap Ca),Ai 0 114 3 eax172 F1.E.length ecx173 (F1.E.flatMap BU),Ai 0 93 3 oax174 F1.O.length ocx175 (F1.O.flatMap BQ),Ai 0 9 1 sax136 r1.names.length scx137 (r1.names.flatMap sE),Ah cf 65 [π (Ax135.ad 0),.map (some ob)],AO F1 Ax135,AP KO ob Ax135.C (opG F1 Ax135),Ah dgx68 51 [.slice nax69 F.N.length ncx70,.slice eax71 F.E.length ecx72,.slice oax73 F.O.length ocx74],Ai 0 88 3 nax69 F.N.length ncx70 (F.N.flatMap Ca),Ai 0 114 3 eax71 F.E.length ecx72 (F.E.flatMap BU),Ai 0 93 3 oax73 F.O.length ocx74 (F.O.flatMap BQ),Iy W W.heap.size,Ah g2 44 [ν xl.cl,ν xl.x.kind,σ xl.x.p1,σ xl.x.p2,ν xl.x.fl,ν xl.x.fd,ν xl.x.off,ν xl.x.n,σ xl.x.data,.bool xl.drop],Ah g1 44 [ν xb.cl,ν xb.x.kind,σ xb.x.p1,σ xb.x.p2,ν xb.x.fl,ν xb.x.fd,ν xb.x.off,ν xb.x.n,σ xb.x.data,.bool xb.drop],Ah g4 44 [ν xa.cl,ν xa.x.kind,σ xa.x.p1,σ xa.x.p2,ν xa.x.fl,ν xa.x.fd,ν xa.x.off,ν xa.x.n,σ xa.x.data,.bool xa.drop]]) κ (s12.pk [0,1,2,3,4,5,6,7,8,12,13,14,15,16,17,18,19] rfl) (fun hq9=>?_)
 refine tv1 hq9 h35 0 rfl rfl (v:=π cgx65) (fun w1 _=>(Aq h35 rfl rfl) w1) fun _ h36=>?_
 refine tv1 hq9 h36 1 rfl rfl (v:=π g1) (fun w1 _=>(rfa h36 rfl rfl (fun w=>Bn g1 0 w)) w1) fun _ h37=>?_
 refine tv1 hq9 h37 2 rfl rfl (v:=ν xb.cl) (fun w1 hSw=>(rld h37 rfl rfl (ldB υ3 rfl (hSw.get 15 rfl:Blk _ _ _ _) rfl))) fun _ h38=>?_
 refine tv1 hq9 h38 3 rfl rfl (v:=.pointer (some ⟨g1,1,none⟩)) (fun w1 _=>(rfa h38 rfl rfl (fun w=>Cg g1 0 w)) w1) fun _ h39=>?_
 refine tv1 hq9 h39 4 rfl rfl (v:=.agg #[ν xb.x.kind,σ xb.x.p1,σ xb.x.p2,ν xb.x.fl,ν xb.x.fd,ν xb.x.off,ν xb.x.n,σ xb.x.data]) (fun w1 hSw=>(rld h39 rfl rfl (ldA υ30 rfl (n:=8) κ (hSw.get 15 rfl:Blk _ _ _ _) rfl rfl))) fun _ h40=>?_
 refine to_ 5 rfl (wn rfl) κ fun _ hK16=>CK h40 rfl rfl rfl (xs:=[.tmp 55]) rfl Cy rfl (vs:=[.agg #[ν xb.x.kind,σ xb.x.p1,σ xb.x.p2,ν xb.x.fl,ν xb.x.fd,ν xb.x.off,ν xb.x.n,σ xb.x.data]]) rfl (args:=#[.agg #[ν xb.x.kind,σ xb.x.p1,σ xb.x.p2,ν xb.x.fl,ν xb.x.fd,ν xb.x.off,ν xb.x.n,σ xb.x.data]]) rfl (Lz s12 xb.x) fun _ v7 w11 r11 h41=>?_
 obtain ⟨rfl,s13⟩:=r11
 refine hK16 _ _ (s13.pk [0,1,2,3,4,5,6,7,8,12,13,14,15,16,17,18,19] rfl) fun hq10=>?_
 refine to_ 6 rfl (wn rfl) κ fun _ hK17=>CK h41 rfl rfl rfl (xs:=[.tmp 51,.tmp 53,.tmp 56]) rfl BM rfl (vs:=[π cgx65,ν xb.cl,.agg #[ν ((Ar xb.x).kind),σ ((Ar xb.x).p1),σ ((Ar xb.x).p2),ν ((Ar xb.x).fl),ν ((Ar xb.x).fd),ν ((Ar xb.x).off),ν ((Ar xb.x).n),σ ((Ar xb.x).data)]]) rfl (args:=#[π cgx65,ν xb.cl,.agg #[ν ((Ar xb.x).kind),σ ((Ar xb.x).p1),σ ((Ar xb.x).p2),ν ((Ar xb.x).fl),ν ((Ar xb.x).fd),ν ((Ar xb.x).off),ν ((Ar xb.x).n),σ ((Ar xb.x).data)]]) rfl (Oy (cf:=cgx65) (A:=Ax67) (F:=F) (n:=20) (x:=(Ar xb.x)) (G:=G1) (r:=r2) (s13.pk [9,10,11,0,1,2,3,4,5,6,7,8,12,13,14,15,16,17,18,19] rfl) hA79 ω (Nat.le_trans (Ha _) ω) (Nat.le_trans (Hb _) ω) (Nat.le_trans (JC _) ω) wb.2.2.2.1 hG1) fun _ v8 w12 r12 h42=>?_
 obtain ⟨Ax206,sax207,scx208,rfl,s14,hA213⟩:=r12
 refine hK17 _ _ (s14.pk [4,5,6,7,8,9,10,11,12,13,14,15,16,17,18,19,20] rfl) fun hq11=>h42.sk [14,13,12,11,10,9,8,7,6,5,0,1,2,3] rfl fun h43=>?_
 refine wpAnyH_done κ ?_ _
 refine hK15 _ _ ?_
 refine sq fun _ hK18=>?_
 have s15:=s14.drew
 refine wp_region_held_drew (S:=fun w'=>Sep w' [Ai 0 9 1 sax207 r2.names.length scx208 (r2.names.flatMap sE),Ah cgx65 65 [π (Ax206.ad 0),.map (some ogx66)],AO G1 Ax206,AP KO ogx66 Ax206.C (opG G1 Ax206),Ai 0 9 1 tax168 r1.names.length tcx169 (r1.names.flatMap sE),Ah df 51 [.slice nax170 F1.N.length ncx171,.slice eax172 F1.E.length ecx173,.slice oax174 F1.O.length ocx175],Ai 0 88 3 nax170 F1.N.length ncx171 (F1.N.flatMap Ca),Ai 0 114 3 eax172 F1.E.length ecx173 (F1.E.flatMap BU),Ai 0 93 3 oax174 F1.O.length ocx175 (F1.O.flatMap BQ),Ai 0 9 1 sax136 r1.names.length scx137 (r1.names.flatMap sE),Ah cf 65 [π (Ax135.ad 0),.map (some ob)],AO F1 Ax135,AP KO ob Ax135.C (opG F1 Ax135),Iy W W.heap.size,Ah g2 44 [ν xl.cl,ν xl.x.kind,σ xl.x.p1,σ xl.x.p2,ν xl.x.fl,ν xl.x.fd,ν xl.x.off,ν xl.x.n,σ xl.x.data,.bool xl.drop],Ah g1 44 [ν xb.cl,ν xb.x.kind,σ xb.x.p1,σ xb.x.p2,ν xb.x.fl,ν xb.x.fd,ν xb.x.off,ν xb.x.n,σ xb.x.data,.bool xb.drop],Ah g4 44 [ν xa.cl,ν xa.x.kind,σ xa.x.p1,σ xa.x.p2,ν xa.x.fl,ν xa.x.fd,ν xa.x.off,ν xa.x.n,σ xa.x.data,.bool xa.drop]]) κ (s15.pk [0,1,2,3,4,5,6,7,8,9,10,11,12,17,18,19,20] rfl) (fun hq12=>?_)
 refine tv1 hq12 h43 0 rfl rfl (v:=π dgx68) (fun w1 _=>(Aq h43 rfl rfl) w1) fun _ h44=>?_
 refine tv1 hq12 h44 1 rfl rfl (v:=π g1) (fun w1 _=>(rfa h44 rfl rfl (fun w=>Bn g1 0 w)) w1) fun _ h45=>?_
 refine tv1 hq12 h45 2 rfl rfl (v:=ν xb.cl) (fun w1 hSw=>(rld h45 rfl rfl (ldB υ3 rfl (hSw.get 15 rfl:Blk _ _ _ _) rfl))) fun _ h46=>?_
 refine tv1 hq12 h46 3 rfl rfl (v:=.pointer (some ⟨g1,1,none⟩)) (fun w1 _=>(rfa h46 rfl rfl (fun w=>Cg g1 0 w)) w1) fun _ h47=>?_
 refine tv1 hq12 h47 4 rfl rfl (v:=.agg #[ν xb.x.kind,σ xb.x.p1,σ xb.x.p2,ν xb.x.fl,ν xb.x.fd,ν xb.x.off,ν xb.x.n,σ xb.x.data]) (fun w1 hSw=>(rld h47 rfl rfl (ldA υ30 rfl (n:=8) κ (hSw.get 15 rfl:Blk _ _ _ _) rfl rfl))) fun _ h48=>?_
 refine to_ 5 rfl (wn rfl) κ fun _ hK19=>CK h48 rfl rfl rfl (xs:=[.tmp 62]) rfl Cy rfl (vs:=[.agg #[ν xb.x.kind,σ xb.x.p1,σ xb.x.p2,ν xb.x.fl,ν xb.x.fd,ν xb.x.off,ν xb.x.n,σ xb.x.data]]) rfl (args:=#[.agg #[ν xb.x.kind,σ xb.x.p1,σ xb.x.p2,ν xb.x.fl,ν xb.x.fd,ν xb.x.off,ν xb.x.n,σ xb.x.data]]) rfl (Lz s15 xb.x) fun _ v9 w13 r13 h49=>?_
 obtain ⟨rfl,s16⟩:=r13
 refine hK19 _ _ (s16.pk [0,1,2,3,4,5,6,7,8,9,10,11,12,17,18,19,20] rfl) fun hq13=>?_
 refine to_ 6 rfl (wn rfl) κ fun _ hK20=>CK h49 rfl rfl rfl (xs:=[.tmp 58,.tmp 60,.tmp 63]) rfl DP rfl (vs:=[π dgx68,ν xb.cl,.agg #[ν ((Ar xb.x).kind),σ ((Ar xb.x).p1),σ ((Ar xb.x).p2),ν ((Ar xb.x).fl),ν ((Ar xb.x).fd),ν ((Ar xb.x).off),ν ((Ar xb.x).n),σ ((Ar xb.x).data)]]) rfl (args:=#[π dgx68,ν xb.cl,.agg #[ν ((Ar xb.x).kind),σ ((Ar xb.x).p1),σ ((Ar xb.x).p2),ν ((Ar xb.x).fl),ν ((Ar xb.x).fd),ν ((Ar xb.x).off),ν ((Ar xb.x).n),σ ((Ar xb.x).data)]]) rfl ((by have z:=Ma (F:=F) (c:=xb.cl) (x:=(Ar xb.x)) (s16.pk [13,14,15,16,0,1,2,3,4,5,6,7,8,9,10,11,12,17,18,19,20] rfl) (hA0.sz.ss ω) hA0.ok (Nat.le_trans (Ha _) ω) (Nat.le_trans (Hb _) ω) (Nat.le_trans (JC _) ω);rw [hG1] at z;exact z)) fun _ v10 w14 r14 h50=>?_
 obtain ⟨tax239,tcx240,nax241,ncx242,eax243,ecx244,oax245,ocx246,rfl,s17⟩:=r14
 refine hK20 _ _ (s17.pk [5,6,7,8,9,10,11,12,13,14,15,16,17,18,19,20,21] rfl) fun hq14=>h50.sk [14,13,12,11,10,9,8,7,6,5,0,1,2,3] rfl fun h51=>?_
 refine wpAnyH_done κ ?_ _
 refine hK18 _ _ ?_
 refine sqr fun _ hK21=>mvs 2 h51 rfl fun _ h52=>cl h52 rfl DT (Od (s17.pk [15,16,17,6,7,8,0,1,2,3,4,5,9,10,11,12,13,14,18,19,20,21] rfl) hA142.ok.toFsC (hA142.sz.sm ω) hA213.ok.toFsC (hA213.sz.sm ω)) fun _ v11 w15 r15 h53=>?_
 obtain ⟨rfl,s18⟩:=r15
 refine mv h53 rfl fun _ h54=>h54.sn [15,14,13,12,11,10,9,8,7,6,5,0,1,2,3] rfl fun h55=>hK21 _ _<|sq fun _ hK22=>sqr fun _ hK23=>mvs 3 h55 rfl fun _ h56=>cl h56 rfl DT ((by have z:=Od (s18.pk [3,4,5,0,1,2,6,7,8,9,10,11,12,13,14,15,16,17,18,19,20,21] rfl) hA213.ok.toFsC (hA213.sz.sm ω) hA142.ok.toFsC (hA142.sz.sm ω);rw [Ob] at z;exact z)) fun _ v12 w16 r16 h57=>?_
 obtain ⟨rfl,s19⟩:=r16
 refine bv h57 (z:=.bool false) rfl (SG _ υ4 _ _ _) fun _ h58=>h58.sn [72,15,14,13,12,11,10,9,8,7,6,5,0,1,2,3] rfl fun h59=>hK23 _ _<|wcF h59 rfl rfl<|h59.sk [15,14,13,12,11,10,9,8,7,6,5,0,1,2,3] rfl fun h60=>wp_skip<|hK22 _ _<|sqr fun _ hK24=>mvs 2 h60 rfl fun _ h61=>cl h61 rfl Fk (KU hA142.ok.toFsC hA213.ok.toFsC (hA142.sz.sm ω) (hA213.sz.sm ω) 1000 (Tp (hA142.sz.sm ω)) hA142.ok.n0.2 hA142.ok.n0.1 hA213.ok.n0.1 (s19.pk [13,14,15,16,7,8,9,10,0,1,2,3,4,5,6,11,12,17,18,19,20,21] rfl)) fun _ v13 w17 r17 h62=>?_
 obtain ⟨tbx294,rfl,s20,hT299⟩:=r17
 have hq1:Er (CD F1) (CD G1)=true→∃ S,Iso S F1 G1:=fun q=>Ru hA142.ok hA213.ok rF1 rG1 nF1 nG1 (hA142.sz.sm ω) (hA213.sz.sm ω) (DL.1 q)
 have hq2:Er (CD F1) (CD G1)=true→tbx294=true∧F1.O.length=G1.O.length:=fun q=>(hq1 q).elim fun S h=>⟨hT299 ⟨S,h,h.root⟩,h.olen hA142.ok.toFsC hA213.ok.toFsC⟩
 refine mv h62 rfl fun _ h63=>h63.sn [16,15,14,13,12,11,10,9,8,7,6,5,0,1,2,3] rfl fun h64=>hK24 _ _<|sq fun _ hK25=>sq fun _ hK26=>?_
 have s21:=s20.drew
 refine wp_region_held_drew (S:=fun w'=>Sep w' [Ah df 51 [.slice nax170 F1.N.length ncx171,.slice eax172 F1.E.length ecx173,.slice oax174 F1.O.length ocx175],Ai 0 88 3 nax170 F1.N.length ncx171 (F1.N.flatMap Ca),Ai 0 114 3 eax172 F1.E.length ecx173 (F1.E.flatMap BU),Ai 0 93 3 oax174 F1.O.length ocx175 (F1.O.flatMap BQ),Ah dgx68 51 [.slice nax241 G1.N.length ncx242,.slice eax243 G1.E.length ecx244,.slice oax245 G1.O.length ocx246],Ai 0 88 3 nax241 G1.N.length ncx242 (G1.N.flatMap Ca),Ai 0 114 3 eax243 G1.E.length ecx244 (G1.E.flatMap BU),Ai 0 93 3 oax245 G1.O.length ocx246 (G1.O.flatMap BQ),Ah cgx65 65 [π (Ax206.ad 0),.map (some ogx66)],AO G1 Ax206,AP KO ogx66 Ax206.C (opG G1 Ax206),Ah cf 65 [π (Ax135.ad 0),.map (some ob)],AO F1 Ax135,AP KO ob Ax135.C (opG F1 Ax135),Ai 0 9 1 tax239 r2.names.length tcx240 (r2.names.flatMap sE),Ai 0 9 1 sax207 r2.names.length scx208 (r2.names.flatMap sE),Ai 0 9 1 tax168 r1.names.length tcx169 (r1.names.flatMap sE),Ai 0 9 1 sax136 r1.names.length scx137 (r1.names.flatMap sE),Iy W W.heap.size,Ah g2 44 [ν xl.cl,ν xl.x.kind,σ xl.x.p1,σ xl.x.p2,ν xl.x.fl,ν xl.x.fd,ν xl.x.off,ν xl.x.n,σ xl.x.data,.bool xl.drop],Ah g1 44 [ν xb.cl,ν xb.x.kind,σ xb.x.p1,σ xb.x.p2,ν xb.x.fl,ν xb.x.fd,ν xb.x.off,ν xb.x.n,σ xb.x.data,.bool xb.drop],Ah g4 44 [ν xa.cl,ν xa.x.kind,σ xa.x.p1,σ xa.x.p2,ν xa.x.fl,ν xa.x.fd,ν xa.x.off,ν xa.x.n,σ xa.x.data,.bool xa.drop]]) κ s21 (fun hq15=>?_)
 refine tv1 hq15 h64 0 rfl rfl (v:=.bool tbx294) (fun w1 _=>(Aq h64 rfl rfl) w1) fun _ h65=>?_
 refine tv1 hq15 h65 1 rfl rfl (v:=.bool (!tbx294)) (fun w1 _=>(Oa h65 rfl (b:=tbx294) rfl) w1) fun _ h66=>?_
 refine tv1 hq15 h66 2 rfl rfl (v:=.bool (!tbx294)) (fun w1 _=>(Aq h66 rfl rfl) w1) fun _ h67=>?_
 refine tgv hq15 h67 3 rfl rfl rfl rfl κ κ κ (fun _ _ _ _ h=>h) (wF h67 rfl rfl rfl) (v:=π df) (fun w1 hSw hC1=>by have hq:=(DC (AW hC1));exact (Aq h67 rfl rfl) w1) fun _ h68=>?_
 refine tgv hq15 h68 4 rfl rfl rfl rfl κ κ κ (fun _ _ _ _ h=>h) (wF h68 rfl rfl rfl) (v:=π df) (fun w1 hSw hC2=>by have hq:=(DC (AW hC2));exact (CJ h68 rfl (opg rfl hC2)) w1) fun _ h69=>?_
 refine tgv hq15 h69 5 rfl rfl rfl rfl κ κ κ (fun _ _ _ _ h=>h) (wF h69 rfl rfl rfl) (v:=.pointer (some ⟨df,2,none⟩)) (fun w1 hSw hC3=>by have hq:=(DC (AW hC3));exact (rfa h69 rfl (opg rfl hC3) (fun w=>AB df 0 w)) w1) fun _ h70=>?_
 refine tgv hq15 h70 6 rfl rfl rfl rfl κ κ κ (fun _ _ _ _ h=>h) (wF h70 rfl rfl rfl) (v:=.slice oax174 F1.O.length ocx175) (fun w1 hSw hC4=>by have hq:=(DC (AW hC4));exact (rld h70 rfl (opg rfl hC4) (ldB υ49 rfl (hSw.get 0 rfl:Blk _ _ _ _) rfl))) fun _ h71=>?_
 refine tgv hq15 h71 7 rfl rfl rfl rfl κ κ κ (fun _ _ _ _ h=>h) (wF h71 rfl rfl rfl) (v:=ν (F1.O.length:Int)) (fun w1 hSw hC5=>by have hq:=(DC (AW hC5));exact (CR h71 rfl (opg rfl hC5) υ49) w1) fun _ h72=>?_
 refine tgv hq15 h72 8 rfl rfl rfl rfl κ κ κ (fun _ _ _ _ h=>h) (wF h72 rfl rfl rfl) (v:=π dgx68) (fun w1 hSw hC6=>by have hq:=(DC (AW hC6));exact (Aq h72 rfl rfl) w1) fun _ h73=>?_
 refine tgv hq15 h73 9 rfl rfl rfl rfl κ κ κ (fun _ _ _ _ h=>h) (wF h73 rfl rfl rfl) (v:=π dgx68) (fun w1 hSw hC7=>by have hq:=(DC (AW hC7));exact (CJ h73 rfl (opg rfl hC7)) w1) fun _ h74=>?_
 refine tgv hq15 h74 10 rfl rfl rfl rfl κ κ κ (fun _ _ _ _ h=>h) (wF h74 rfl rfl rfl) (v:=.pointer (some ⟨dgx68,2,none⟩)) (fun w1 hSw hC8=>by have hq:=(DC (AW hC8));exact (rfa h74 rfl (opg rfl hC8) (fun w=>AB dgx68 0 w)) w1) fun _ h75=>?_
 refine tgv hq15 h75 11 rfl rfl rfl rfl κ κ κ (fun _ _ _ _ h=>h) (wF h75 rfl rfl rfl) (v:=.slice oax245 G1.O.length ocx246) (fun w1 hSw hC9=>by have hq:=(DC (AW hC9));exact (rld h75 rfl (opg rfl hC9) (ldB υ49 rfl (hSw.get 4 rfl:Blk _ _ _ _) rfl))) fun _ h76=>?_
 refine tgv hq15 h76 12 rfl rfl rfl rfl κ κ κ (fun _ _ _ _ h=>h) (wF h76 rfl rfl rfl) (v:=ν (G1.O.length:Int)) (fun w1 hSw hC10=>by have hq:=(DC (AW hC10));exact (CR h76 rfl (opg rfl hC10) υ49) w1) fun _ h77=>?_
 refine tgv hq15 h77 13 rfl rfl rfl rfl κ κ κ (fun _ _ _ _ h=>h) (wF h77 rfl rfl rfl) (v:=.bool (decide ((F1.O.length:Int)≠(G1.O.length:Int)))) (fun w1 hSw hC11=>by have hq:=(DC (AW hC11));exact (BF h77 rfl (opg rfl hC11) (opg rfl hC11) (cNe _ _ _ _ rfl)) w1) fun _ h78=>?_
 refine tv1 hq15 h78 14 rfl rfl (v:=.bool ((!tbx294)||(decide ((F1.O.length:Int)≠(G1.O.length:Int))))) (fun w1 _=>(Ds h78 rfl (E:=(!tbx294)) (F:=(decide ((F1.O.length:Int)≠(G1.O.length:Int)))) rfl rfl rfl (fun e=>if_pos (by rw [e];try rfl))) w1) fun _ h79=>?_
 refine h79.sk [90,16,15,14,13,12,11,10,9,8,7,6,5,0,1,2,3] rfl fun h80=>?_
 refine wpAnyH_done κ ?_ _
 refine hK26 _ _ ?_
 rcases bC ((!tbx294)||(decide ((F1.O.length:Int)≠(G1.O.length:Int)))) with hc1 | hc1
 ·skip
  have hp1:(tbx294=false)∨((F1.O.length:Int)≠(G1.O.length:Int)):=((orT hc1).imp (fun q=>(AW q)) (fun q=>(dT q)))
  have q0:Er (CD F1) (CD G1)=false:=Bool.eq_false_iff.2 fun q=>by obtain ⟨q1,q2⟩:=hq2 q;exact hp1.elim (fun z=>by rw [z] at q1;cases q1) (fun z=>ω)
  refine wcT h80 rfl hc1<|h80.sk [16,15,14,13,12,11,10,9,8,7,6,5,0,1,2,3] rfl fun h81=>sqr fun _ hK27=>mvs 3 h81 rfl fun _ h82=>so ((wT h82 rfl rfl rfl).trans (Bt q0)) fun _ hK28=>CK h82 rfl rfl rfl (xs:=[]) rfl DO rfl (vs:=[]) rfl (args:=#[]) rfl (Mh s21) fun _ v14 w18 r18 h83=>hK28 _ _ ?_
  obtain ⟨rfl,s22⟩:=r18
  refine sv1 h83 rfl (v:=.bool true) (BO h83 rfl (E:=(!(Er (CD F1) (CD G1)))) (b:=true) rfl (Bt q0) rfl) fun _ h84=>h84.sk [95,94,93,92,91,16,15,14,13,12,11,10,9,7,6,5,0,1,2,3] rfl fun h85=>mv h85 rfl fun _ h86=>h86.sn [8,16,15,14,13,12,11,10,9,7,6,5,0,1,2,3] rfl fun h87=>hK27 _ _<|wp_ret ?_
  try simp only [Exit.then,Exit.inBlock]
  refine Bi (v:=.bool true) (Ce h87 rfl rfl) h87.defs ?_
  exact ⟨rfl,(s22.get 18 rfl:Below _ _ _∧_).1⟩
 ·skip
  have hp2:(tbx294=true)∧(¬ ((F1.O.length:Int)≠(G1.O.length:Int))):=(And.intro (DC (orF hc1).1) (dF (orF hc1).2))
  refine wcF h80 rfl hc1<|h80.sk [16,15,14,13,12,11,10,9,8,7,6,5,0,1,2,3] rfl fun h88=>wp_skip<|hK25 _ _<|sq fun _ hK29=>sqr fun _ hK30=>mvs 2 h88 rfl fun _ h89=>h89.sn [97,16,15,14,13,12,11,10,9,8,7,6,5,0,1,2,3] rfl fun h90=>hK30 _ _ ?_
  rcases bC (Er (CD F1) (CD G1)) with hc2 | hc2
  ·skip
   obtain ⟨S1,hI1⟩:=hq1 hc2
   have hL:=hI1.do_ hA142.ok.toFsC hA213.ok.toFsC xl.cl (Ar xl.x)
   obtain ⟨F2,r3,hF2⟩:∃ G r,doF F1 xl.cl (Ar xl.x)=(G,r):=⟨_,_,rfl⟩
   obtain ⟨G2,r4,hG2⟩:∃ G r,doF G1 xl.cl (Ar xl.x)=(G,r):=⟨_,_,rfl⟩
   rw [hF2,hG2] at hL;obtain ⟨hr34,S2,hI2⟩:=hL;cases (show r3=r4 from hr34)
   have hnl:r3.names.length≤1000:=by have z:=Kh (F:=F1) xl.cl (Ar xl.x);rw [hF2] at z;exact Nat.le_trans z (Nat.le_trans hA142.sz.2.1 ω)
   refine wcF h90 rfl (Bq hc2)<|h90.sk [16,15,14,13,12,11,10,9,8,7,6,5,0,1,2,3] rfl fun h91=>wp_skip<|hK29 _ _<|sqr fun _ hK31=>fav h91 rfl (Cg _ _) fun _ h92=>sw1 h92 rfl (v:=.agg #[ν xl.x.kind,σ xl.x.p1,σ xl.x.p2,ν xl.x.fl,ν xl.x.fd,ν xl.x.off,ν xl.x.n,σ xl.x.data]) (rld h92 rfl rfl (ldA υ30 rfl (n:=8) κ (s21.get 19 rfl:Blk _ _ _ _) rfl rfl)) fun _ h93=>cl h93 rfl Cy (Lz s21 xl.x) fun _ v15 w19 r19 h94=>?_
   obtain ⟨rfl,s23⟩:=r19
   refine so (wn rfl) fun _ hK32=>BE h94 rfl rfl rfl rfl (z:=[ν 0,σ [],σ [],ν 0,ν 0,ν 0,ν 0,σ []]) (fun _=>rfl) s23 fun _ g3 w20 h95 s24 _ _=>hK32 _ _ ?_
   refine stA h95 s24 0 rfl rfl rfl κ rfl rfl rfl rfl fun _ w21 h96 s25 _=>h96.sn [17,16,15,14,13,12,11,10,9,8,7,6,5,0,1,2,3] rfl fun h97=>hK31 _ _<|sq fun _ hK33=>?_
   have s26:=s25.drew
   refine wp_region_held_drew (S:=fun w'=>Sep w' [Ah g3 30 [ν ((Ar xl.x).kind),σ ((Ar xl.x).p1),σ ((Ar xl.x).p2),ν ((Ar xl.x).fl),ν ((Ar xl.x).fd),ν ((Ar xl.x).off),ν ((Ar xl.x).n),σ ((Ar xl.x).data)],Ah df 51 [.slice nax170 F1.N.length ncx171,.slice eax172 F1.E.length ecx173,.slice oax174 F1.O.length ocx175],Ai 0 88 3 nax170 F1.N.length ncx171 (F1.N.flatMap Ca),Ai 0 114 3 eax172 F1.E.length ecx173 (F1.E.flatMap BU),Ai 0 93 3 oax174 F1.O.length ocx175 (F1.O.flatMap BQ),Ah dgx68 51 [.slice nax241 G1.N.length ncx242,.slice eax243 G1.E.length ecx244,.slice oax245 G1.O.length ocx246],Ai 0 88 3 nax241 G1.N.length ncx242 (G1.N.flatMap Ca),Ai 0 114 3 eax243 G1.E.length ecx244 (G1.E.flatMap BU),Ai 0 93 3 oax245 G1.O.length ocx246 (G1.O.flatMap BQ),Ai 0 9 1 tax239 r2.names.length tcx240 (r2.names.flatMap sE),Ai 0 9 1 sax207 r2.names.length scx208 (r2.names.flatMap sE),Ai 0 9 1 tax168 r1.names.length tcx169 (r1.names.flatMap sE),Ai 0 9 1 sax136 r1.names.length scx137 (r1.names.flatMap sE),Iy W W.heap.size,Ah g2 44 [ν xl.cl,ν xl.x.kind,σ xl.x.p1,σ xl.x.p2,ν xl.x.fl,ν xl.x.fd,ν xl.x.off,ν xl.x.n,σ xl.x.data,.bool xl.drop],Ah g1 44 [ν xb.cl,ν xb.x.kind,σ xb.x.p1,σ xb.x.p2,ν xb.x.fl,ν xb.x.fd,ν xb.x.off,ν xb.x.n,σ xb.x.data,.bool xb.drop],Ah g4 44 [ν xa.cl,ν xa.x.kind,σ xa.x.p1,σ xa.x.p2,ν xa.x.fl,ν xa.x.fd,ν xa.x.off,ν xa.x.n,σ xa.x.data,.bool xa.drop]]) κ (s26.pk [0,1,2,3,4,5,6,7,8,15,16,17,18,19,20,21,22] rfl) (fun hq16=>?_)
   refine tv1 hq16 h97 0 rfl rfl (v:=π cf) (fun w1 _=>(Aq h97 rfl rfl) w1) fun _ h98=>?_
   refine tv1 hq16 h98 1 rfl rfl (v:=π g2) (fun w1 _=>(rfa h98 rfl rfl (fun w=>Bn g2 0 w)) w1) fun _ h99=>?_
   refine tv1 hq16 h99 2 rfl rfl (v:=ν xl.cl) (fun w1 hSw=>(rld h99 rfl rfl (ldB υ3 rfl (hSw.get 14 rfl:Blk _ _ _ _) rfl))) fun _ h100=>?_
   refine tv1 hq16 h100 3 rfl rfl (v:=.agg #[ν ((Ar xl.x).kind),σ ((Ar xl.x).p1),σ ((Ar xl.x).p2),ν ((Ar xl.x).fl),ν ((Ar xl.x).fd),ν ((Ar xl.x).off),ν ((Ar xl.x).n),σ ((Ar xl.x).data)]) (fun w1 hSw=>(rld h100 rfl rfl (ldA υ30 rfl (n:=8) κ (hSw.get 0 rfl:Blk _ _ _ _) rfl rfl))) fun _ h101=>?_
   refine tv1 hq16 h101 5 rfl rfl (v:=π cgx65) (fun w1 _=>(Aq h101 rfl rfl) w1) fun _ h102=>?_
   refine tv1 hq16 h102 6 rfl rfl (v:=π g2) (fun w1 _=>(rfa h102 rfl rfl (fun w=>Bn g2 0 w)) w1) fun _ h103=>?_
   refine tv1 hq16 h103 7 rfl rfl (v:=ν xl.cl) (fun w1 hSw=>(rld h103 rfl rfl (ldB υ3 rfl (hSw.get 14 rfl:Blk _ _ _ _) rfl))) fun _ h104=>?_
   refine tv1 hq16 h104 8 rfl rfl (v:=.agg #[ν ((Ar xl.x).kind),σ ((Ar xl.x).p1),σ ((Ar xl.x).p2),ν ((Ar xl.x).fl),ν ((Ar xl.x).fd),ν ((Ar xl.x).off),ν ((Ar xl.x).n),σ ((Ar xl.x).data)]) (fun w1 hSw=>(rld h104 rfl rfl (ldA υ30 rfl (n:=8) κ (hSw.get 0 rfl:Blk _ _ _ _) rfl rfl))) fun _ h105=>?_
   refine to_ 4 rfl (wn rfl) κ fun _ hK34=>CK h105 rfl rfl rfl (xs:=[.tmp 102,.tmp 104,.tmp 105]) rfl BM rfl (vs:=[π cf,ν xl.cl,.agg #[ν ((Ar xl.x).kind),σ ((Ar xl.x).p1),σ ((Ar xl.x).p2),ν ((Ar xl.x).fl),ν ((Ar xl.x).fd),ν ((Ar xl.x).off),ν ((Ar xl.x).n),σ ((Ar xl.x).data)]]) rfl (args:=#[π cf,ν xl.cl,.agg #[ν ((Ar xl.x).kind),σ ((Ar xl.x).p1),σ ((Ar xl.x).p2),ν ((Ar xl.x).fl),ν ((Ar xl.x).fd),ν ((Ar xl.x).off),ν ((Ar xl.x).n),σ ((Ar xl.x).data)]]) rfl (Oy (cf:=cf) (A:=Ax135) (F:=F1) (n:=21) (x:=(Ar xl.x)) (G:=F2) (r:=r3) (s26.pk [12,13,14,0,1,2,3,4,5,6,7,8,9,10,11,15,16,17,18,19,20,21,22] rfl) hA142 ω (Nat.le_trans (Ha _) ω) (Nat.le_trans (Hb _) ω) (Nat.le_trans (JC _) ω) wl.2.2.2.1 hF2) fun _ v16 w22 r20 h106=>?_
   obtain ⟨Ax433,sax434,scx435,rfl,s27,hA440⟩:=r20
   refine hK34 _ _ (s27.pk [4,5,6,7,8,9,10,11,12,16,17,18,19,20,21,22,23] rfl) fun hq17=>?_
   refine to_ 9 rfl (wn rfl) κ fun _ hK35=>CK h106 rfl rfl rfl (xs:=[.tmp 107,.tmp 109,.tmp 110]) rfl BM rfl (vs:=[π cgx65,ν xl.cl,.agg #[ν ((Ar xl.x).kind),σ ((Ar xl.x).p1),σ ((Ar xl.x).p2),ν ((Ar xl.x).fl),ν ((Ar xl.x).fd),ν ((Ar xl.x).off),ν ((Ar xl.x).n),σ ((Ar xl.x).data)]]) rfl (args:=#[π cgx65,ν xl.cl,.agg #[ν ((Ar xl.x).kind),σ ((Ar xl.x).p1),σ ((Ar xl.x).p2),ν ((Ar xl.x).fl),ν ((Ar xl.x).fd),ν ((Ar xl.x).off),ν ((Ar xl.x).n),σ ((Ar xl.x).data)]]) rfl (Oy (cf:=cgx65) (A:=Ax206) (F:=G1) (n:=21) (x:=(Ar xl.x)) (G:=G2) (r:=r3) (s27.pk [13,14,15,0,1,2,3,4,5,6,7,8,9,10,11,12,16,17,18,19,20,21,22,23] rfl) hA213 ω (Nat.le_trans (Ha _) ω) (Nat.le_trans (Hb _) ω) (Nat.le_trans (JC _) ω) wl.2.2.2.1 hG2) fun _ v17 w23 r21 h107=>?_
   obtain ⟨Ax444,sax445,scx446,rfl,s28,hA451⟩:=r21
   refine hK35 _ _ (s28.pk [8,9,10,11,12,13,14,15,16,17,18,19,20,21,22,23,24] rfl) fun hq18=>?_
   refine to_ 10 rfl (wn rfl) κ fun _ hK36=>CK h107 rfl rfl rfl (xs:=[.tmp 106,.tmp 111]) rfl Eg rfl (vs:=[.agg #[ν r3.e,ν r3.fd,σ r3.data,.slice sax434 r3.names.length scx435,ν r3.kind,ν r3.links,ν r3.size],.agg #[ν r3.e,ν r3.fd,σ r3.data,.slice sax445 r3.names.length scx446,ν r3.kind,ν r3.links,ν r3.size]]) rfl (args:=#[.agg #[ν r3.e,ν r3.fd,σ r3.data,.slice sax434 r3.names.length scx435,ν r3.kind,ν r3.links,ν r3.size],.agg #[ν r3.e,ν r3.fd,σ r3.data,.slice sax445 r3.names.length scx446,ν r3.kind,ν r3.links,ν r3.size]]) rfl ((by have z:=JL (r:=r3) (s:=r3) (s28.pk [4,0,1,2,3,5,6,7,8,9,10,11,12,13,14,15,16,17,18,19,20,21,22,23,24] rfl) (Nat.le_trans hnl (by decide)) (Nat.le_trans hnl (by decide));rw [KT] at z;exact z)) fun _ v18 w24 r22 h108=>?_
   obtain ⟨rfl,s29⟩:=r22
   refine hK36 _ _ (s29.pk [8,9,10,11,12,13,14,15,16,17,18,19,20,21,22,23,24] rfl) fun hq19=>?_
   refine tv1 hq19 h108 11 rfl rfl (v:=.bool true) (fun w1 _=>(CH h108 rfl rfl) w1) fun _ h109=>?_
   refine h109.sk [18,17,16,15,14,13,12,11,10,9,8,7,6,5,0,1,2,3] rfl fun h110=>?_
   refine wpAnyH_done κ ?_ _
   refine hK33 _ _ ?_
   refine sqr fun _ hK37=>mvs 2 h110 rfl fun _ h111=>sv h111 (wT h111 (E:=true) rfl rfl rfl) rfl rfl rfl (v:=π cf) (Aq h111 rfl rfl) fun _ h112=>sv h112 (wT h112 (E:=true) rfl rfl rfl) rfl rfl rfl (v:=π cgx65) (Aq h112 rfl rfl) fun _ h113=>so (wT h113 (E:=true) rfl rfl rfl) fun _ hK38=>CK h113 rfl rfl rfl (xs:=[.tmp 115,.tmp 116]) rfl DT rfl (vs:=[π cf,π cgx65]) rfl (args:=#[π cf,π cgx65]) rfl (Od (s29.pk [5,6,7,2,3,4,0,1,8,9,10,11,12,13,14,15,16,17,18,19,20,21,22,23,24] rfl) hA440.ok.toFsC (hA440.sz.sm ω) hA451.ok.toFsC (hA451.sz.sm ω)) fun _ v19 w25 r23 h114=>hK38 _ _ ?_
   obtain ⟨rfl,s30⟩:=r23
   have q3:Er (CD F2) (CD G2)=true:=DL.2 (Iso.rows (F:=F2) (G:=G2) hI2 hA440.ok.toFsC hA451.ok.toFsC)
   refine sv1 h114 rfl (v:=.bool (Er (CD F2) (CD G2))) (Eh h114 rfl rfl rfl) fun _ h115=>mv h115 rfl fun _ h116=>so ((wT h116 rfl rfl rfl).trans q3) fun _ hK39=>CK h116 rfl rfl rfl (xs:=[]) rfl DO rfl (vs:=[]) rfl (args:=#[]) rfl (Mh s30) fun _ v20 w26 r24 h117=>hK39 _ _ ?_
   obtain ⟨rfl,s31⟩:=r24
   refine sv1 h117 rfl (v:=.bool true) (BO h117 rfl (E:=(Er (CD F2) (CD G2))) (b:=true) rfl q3 rfl) fun _ h118=>h118.sk [121,120,119,118,117,116,115,114,113,18,17,16,15,14,13,12,11,10,9,7,6,5,0,1,2,3] rfl fun h119=>mv h119 rfl fun _ h120=>h120.sn [8,18,17,16,15,14,13,12,11,10,9,7,6,5,0,1,2,3] rfl fun h121=>hK37 _ _<|wp_ret ?_
   try simp only [Exit.then,Exit.inBlock]
   refine Bi (v:=.bool true) (Ce h121 rfl rfl) h121.defs ?_
   exact ⟨rfl,(s31.get 21 rfl:Below _ _ _∧_).1⟩
  ·skip
   refine wcT h90 rfl (Bt hc2)<|h90.sk [16,15,14,13,12,11,10,9,8,7,6,5,0,1,2,3] rfl fun h122=>sqr fun _ hK40=>cl h122 rfl DO (Mh s21) fun _ v21 w27 r25 h123=>?_
   obtain ⟨rfl,s32⟩:=r25
   refine h123.sk [98,16,15,14,13,12,11,10,9,7,6,5,0,1,2,3] rfl fun h124=>mv h124 rfl fun _ h125=>h125.sn [8,16,15,14,13,12,11,10,9,7,6,5,0,1,2,3] rfl fun h126=>hK40 _ _<|wp_ret ?_
   try simp only [Exit.then,Exit.inBlock]
   refine Bi (v:=.bool true) (Ce h126 rfl rfl) h126.defs ?_
   exact ⟨rfl,(s32.get 18 rfl:Below _ _ _∧_).1⟩
end
end Go.Proofs.YtcanemamnmmbcaaGreatDoor
