/- Parts of the proof. -/
import Derived.Test.YtcanemamnmmbcaaGreatDoorQam
namespace Go.Proofs.YtcanemamnmmbcaaGreatDoor
open Go.RowKit
set_option linter.unusedSimpArgs false
set_option linter.unusedVariables false
set_option linter.unusedSectionVars false
set_option maxRecDepth 100000
set_option maxHeartbeats 8000000
section
def Reach (F:FsM):Prop:=∀ x∈F.E,∃ M,Ao F 0 M=(0,x.dn)
theorem IW {F G:FsM} (hd:∀ i,F.dir i=true→G.dir i=true) (he:∀ i t m,Ai F.E i t=some m→Ai G.E i t=some m):∀ (M:List ByteArray) (n k:Nat),Ao F n M=(0,k)→Ao G n M=(0,k)
  | [],n,k,h=>h
  | t::M,n,k,h=>by
    unfold Ao at h ⊢
    by_cases h1:F.dir n=true
    · rw [if_pos h1] at h
      rw [if_pos (hd n h1)]
      cases hl:Ai F.E n t with
      | none=>rw [hl] at h;cases h
      | some m=>
        rw [hl] at h
        rw [he n t m hl]
        exact IW hd he M m k h
    · rw [if_neg h1] at h;cases h
theorem Fo (F:FsM):∀ (A B:List ByteArray) (n k:Nat),Ao F n A=(0,k)→Ao F n (A++B)=Ao F k B
  | [],B,n,k,h=>by have e:n=k:=(Prod.mk.inj h).2;rw [e];rfl
  | t::A,B,n,k,h=>by
    show Ao F n (t::(A++B))=_
    unfold Ao at h
    rw [Ao]
    by_cases h1:F.dir n=true
    · rw [if_pos h1] at h ⊢
      cases hl:Ai F.E n t with
      | none=>rw [hl] at h;cases h
      | some m=>rw [hl] at h;exact Fo F A B m k h
    · rw [if_neg h1] at h;cases h
theorem LG (F:FsM):∀ (A B:List ByteArray) (n k:Nat),Ao F n (A++B)=(0,k)→∃ j,Ao F n A=(0,j)∧Ao F j B=(0,k)
  | [],B,n,k,h=>⟨n,rfl,h⟩
  | t::A,B,n,k,h=>by
    have h:Ao F n (t::(A++B))=(0,k):=h
    rw [Ao] at h
    rw [Ao]
    by_cases h1:F.dir n=true
    · rw [if_pos h1] at h ⊢
      cases hl:Ai F.E n t with
      | none=>rw [hl] at h;cases h
      | some m=>rw [hl] at h;exact LG F A B m k h
    · rw [if_neg h1] at h;cases h
section
variable {F G:FsM} {δ:Nat→Int}
theorem Reach.same (h:Reach F) (hd:∀ i,F.dir i=true→G.dir i=true) (he:G.E=F.E):Reach G:=fun x hx=>by
  rw [he] at hx
  obtain ⟨M,hM⟩:=h x hx
  exact ⟨M,IW hd (fun i t m q=>by rw [he];exact q) M _ _ hM⟩
theorem Reach.put (h:Reach F) {d m:Nat} {s:ByteArray} (hd:∀ i,F.dir i=true→G.dir i=true) (he:G.E=F.E++[⟨d,s,m⟩]) (hl:Ai F.E d s=none) (hp:∃ M,Ao F 0 M=(0,d)):Reach G:=fun x hx=>by
  have key:∀ i t k,Ai F.E i t=some k→Ai G.E i t=some k:=fun i t k q=>by
    rw [he,Dc hl,if_neg (fun e=>by rw [e.1,e.2,hl] at q;cases q)];exact q
  rw [he] at hx
  rcases List.mem_append.1 hx with hx | hx
  · obtain ⟨M,hM⟩:=h x hx
    exact ⟨M,IW hd key M _ _ hM⟩
  · rw [List.mem_singleton] at hx;subst hx
    obtain ⟨M,hM⟩:=hp
    exact ⟨M,IW hd key M _ _ hM⟩
theorem Reach.take (h:Reach F) (hF:FsC F δ) {d m:Nat} {s:ByteArray} (hd:∀ i,G.dir i=F.dir i) (he:G.E=BY F.E d s) (hl:Ai F.E d s=some m) (hdead:F.dir m=true→∀ t,Ai F.E m t=none):Reach G:=fun x hx=>by
  rw [he] at hx
  have hx:=(List.mem_filter.1 hx).1
  obtain ⟨M,hM⟩:=h x hx
  exact ⟨M,Hx hd (fun k t hk=>by rw [he,BA,if_neg hk]) hl hdead M 0 _ hM (hF.e x hx).1.2 ⟨x.nm,x.nd,EY hF.ed hx⟩⟩
theorem Reach.moved (h:Reach F) (hF:FsC F δ) {d0 n d:Nat} {s0 s:ByteArray} {P D:List ByteArray} (hP:Ao F 0 P=(0,d0)) (hd0:F.dir d0=true) (hn:Ai F.E d0 s0=some n) (hD:Ao F 0 D=(0,d)) (hdd:F.dir d=true) (hl:Ai F.E d s=none) (hins:F.dir n=true→¬ ∃ Q,D=(P++[s0])++Q) :
    Reach (Bu (Aq F d0 s0) d s n):=by
  have hne:Ai (Aq F d0 s0).E d s=none:=by show Ai (BY F.E d0 s0) d s=none;rw [BA];split;rfl;exact hl
  have hG:∀ a t k,Ai F.E a t=some k→¬ (a=d0∧t=s0)→Ai (Bu (Aq F d0 s0) d s n).E a t=some k:=fun a t k q hq=>by
    show Ai ((Aq F d0 s0).E++[_]) a t=_
    rw [Dc hne,if_neg (fun e=>by rw [e.1,e.2,hl] at q;cases q)]
    show Ai (BY F.E d0 s0) a t=_
    rw [BA,if_neg hq];exact q
  have hGn:Ai (Bu (Aq F d0 s0) d s n).E d s=some n:=by
    show Ai ((Aq F d0 s0).E++[_]) d s=_
    rw [Dc hne,if_pos ⟨rfl,rfl⟩]
  have hw0:Ao F 0 (P++[s0])=(0,n):=Gs hP hd0 hn
  have hdir:∀ i,(Bu (Aq F d0 s0) d s n).dir i=F.dir i:=fun i=>rfl
  have A:∀ (q:Nat) (M:List ByteArray) (k:Nat),M.length=q→Ao F 0 M=(0,k)→(¬ ∃ Q,M=(P++[s0])++Q)→Ao (Bu (Aq F d0 s0) d s n) 0 M=(0,k):=by
    intro q
    induction q with
    | zero=>intro M k hq hM _;have e:=List.eq_nil_of_length_eq_zero hq;subst e;exact hM
    | succ q ih=>
      intro M k hq hM hno
      rcases CJ M with e | ⟨B,t,e⟩
      · subst e;cases hq
      subst e
      obtain ⟨a,ha,hda,hla⟩:=FH hM
      refine Gs (ih B a (by simpa using hq) ha (fun ⟨Q,e⟩=>hno ⟨Q++[t],by rw [e];simp⟩)) hda (hG a t k hla fun e=>hno ⟨[],?_⟩)
      rw [e.1] at ha
      rw [hF.uniq _ B P d0 rfl ha hP hd0,e.2];simp
  have C:∀ (q:Nat) (Q:List ByteArray) (k:Nat),Q.length=q→Ao F n Q=(0,k)→Ao (Bu (Aq F d0 s0) d s n) n Q=(0,k):=by
    intro q
    induction q with
    | zero=>intro Q k hq hQ;have e:=List.eq_nil_of_length_eq_zero hq;subst e;exact hQ
    | succ q ih=>
      intro Q k hq hQ
      rcases CJ Q with e | ⟨B,t,e⟩
      · subst e;cases hq
      subst e
      obtain ⟨a,ha,hla⟩:=LG F B [t] n k hQ
      have hda:F.dir a=true:=by
        rw [Ao] at hla
        by_cases h1:F.dir a=true
        · exact h1
        · rw [if_neg h1] at hla;cases hla
      have hlk:Ai F.E a t=some k:=by
        rw [Ao,if_pos hda] at hla
        cases hx:Ai F.E a t with
        | none=>rw [hx] at hla;cases hla
        | some m=>rw [hx] at hla;have e:m=k:=(Prod.mk.inj hla).2;rw [e]
      have hG2:=hG a t k hlk (fun e=>by
        rw [e.1] at ha
        have z:=Fo F (P++[s0]) B 0 n hw0
        rw [ha] at z
        have e2:=congrArg List.length (hF.uniq _ _ _ d0 rfl z hP hd0)
        simp at e2)
      rw [Fo _ B [t] n a (ih B a (by simpa using hq) ha),Ao,if_pos (by rw [hdir];exact hda),hG2]
      rfl
  have hDn:¬ ∃ Q,D=(P++[s0])++Q:=fun ⟨Q,e⟩=>by
    cases hnd:F.dir n with
    | true=>exact hins hnd ⟨Q,e⟩
    | false=>
      rw [e,Fo F _ Q 0 n hw0] at hD
      cases Q with
      | nil=>have e2:n=d:=(Prod.mk.inj hD).2;rw [e2,hdd] at hnd;cases hnd
      | cons t Q=>rw [Ao,if_neg (by rw [hnd];decide)] at hD;cases hD
  have hGD:=A _ D d rfl hD hDn
  intro x hx
  rcases List.mem_append.1 hx with hx | hx
  · have hx:=(List.mem_filter.1 hx).1
    obtain ⟨M,hM⟩:=h x hx
    by_cases hq:∃ Q,M=(P++[s0])++Q
    · obtain ⟨Q,e⟩:=hq
      rw [e,Fo F _ Q 0 n hw0] at hM
      refine ⟨(D++[s])++Q,?_⟩
      rw [Fo _ _ Q 0 n (Gs hGD hdd hGn)]
      exact C _ Q _ rfl hM
    · exact ⟨M,A _ M _ rfl hM hq⟩
  · rw [List.mem_singleton] at hx;subst hx
    exact ⟨D,hGD⟩
end
section
variable {F:FsM} {X Y:List UInt8}
theorem He (hp:(Aa F X).1=0):∃ M,Ao F 0 M=(0,(Aa F X).2.1):=by
  obtain ⟨M,x,hpo,h1,h2,e⟩:=Eu hp
  rw [e];exact ⟨M,Prod.ext h1 rfl⟩
theorem Lv (h:FsOk F) (b:Bool) (i:Nat) (hi:F.dir i=true):(AL F b).dir i=true:=by
  rw [Dr,if_neg ?_];exact hi
  intro e
  have:F.dir F.N.length=false:=by unfold FsM.dir FsM.at;rw [List.getD_eq_getElem?_getD,List.getElem?_eq_none (Nat.le_refl _)];rfl
  rw [e,this] at hi;cases hi
theorem Reach.open_ (hr:Reach F) (h:FsOk F) (c fl:Int):Reach (AT F c X fl).1:=by
  unfold AT;split
  · split
    · split
      · exact hr
      · split
        · exact hr
        · split
          · exact hr
          · exact hr.same (fun i q=>q) rfl
    · split
      · rename_i hf hc
        split
        · exact hr
        · exact hr.put (fun i q=>Lv h false i q) rfl (CN hf hc.2.1) (He hc.2.1)
      · exact hr
  · exact hr
theorem Reach.data (hr:Reach F) (h:FsOk F) {n:Nat} (hn:n<F.N.length) (d:List UInt8):Reach (BX F n d):=hr.same (fun i q=>by rw [Hl hn];exact q) rfl
theorem Reach.unlink_ (hr:Reach F) (h:FsOk F):Reach (Cc F X).1:=by
  unfold Cc
  split
  · rename_i hf
    split
    · exact hr
    · rename_i hd
      have hd:F.dir (Ac F X).2=false:=by cases q:F.dir (Ac F X).2 with | false=>rfl | true=>exact absurd q hd
      have hn:¬ Ag X=some []:=fun e=>by have z:=h.toFsC.root_dir e;rw [hd] at z;cases z
      obtain ⟨_,x2⟩:=Be hf hn
      exact hr.take h.toFsC (fun i=>DE (F:=Aq F _ _) (h.toFsC.look_lt x2).1 (-1) i) rfl x2 (fun q=>by rw [hd] at q;cases q)
  · exact hr
theorem Reach.rmdir_ (hr:Reach F) (h:FsOk F):Reach (Bo F X).1:=by
  unfold Bo
  split
  · exact hr
  · rename_i hX
    split
    · rename_i hf
      split
      · split
        · exact hr
        · rename_i hc
          obtain ⟨_,x2⟩:=Be hf (fun e=>hX (Cm.1 e))
          exact hr.take h.toFsC (fun i=>rfl) rfl x2 (fun _ t=>Lm hc t)
      · exact hr
    · exact hr
theorem Reach.links_ (hr:Reach F) (h:FsOk F):Reach (AQ F X Y).1:=by
  unfold AQ
  split
  · split
    · rename_i hf
      split
      · exact hr
      · split
        · exact hr
        · split
          · rename_i hp
            split
            · exact hr
            · rename_i hl
              split
              · exact hr
              · have hl:Ai F.E (Aa F Y).2.1 (Aa F Y).2.2=none:=by cases q:Ai F.E (Aa F Y).2.1 (Aa F Y).2.2 with | none=>rfl | some m=>rw [q] at hl;exact absurd rfl hl
                exact hr.put (fun i q=>by rw [DE (F:=Bu F _ _ _) (h.toFsC.find_lt X)];exact q) rfl hl (He hp)
          · exact hr
    · exact hr
  · exact hr
theorem Reach.rename_ (hr:Reach F) (h:FsOk F):Reach (Am F X Y).1:=by
  unfold Am
  split
  · rename_i hc
    split
    · rename_i hf
      split
      · exact hr
      · rename_i hi
        split
        · rename_i hp
          have hn:¬ Ag X=some []:=fun e=>hc.2.1 (Cm.1 e)
          obtain ⟨x1,x2⟩:=Be hf hn
          obtain ⟨P,s0,hpX,w1,v1,eX⟩:=Eu x1
          obtain ⟨D,s,hpY,w2,v2,eY⟩:=Eu hp
          have W1:Ao F 0 P=(0,(Aa F X).2.1):=by rw [eX];exact Prod.ext w1 rfl
          have W2:Ao F 0 D=(0,(Aa F Y).2.1):=by rw [eY];exact Prod.ext w2 rfl
          have V1:F.dir (Aa F X).2.1=true:=by rw [eX];exact v1
          have V2:F.dir (Aa F Y).2.1=true:=by rw [eY];exact v2
          have S1:(Aa F X).2.2=s0:=by rw [eX]
          have hins:∀ k,k≠some (Ac F X).2∨True→Ai F.E (Aa F Y).2.1 (Aa F Y).2.2≠some (Ac F X).2→F.dir (Ac F X).2=true→¬ ∃ Q,D=(P++[(Aa F X).2.2])++Q:=fun _ _ hne hd ⟨Q,e⟩=>by
            refine hi ⟨⟨hd,fun e2=>hne ?_⟩,?_⟩
            · rw [← e2];exact x2
            · rw [hpX,hpY,e,S1,List.append_assoc];exact QC
          unfold Bh
          split
          · rename_i hl
            exact hr.moved h.toFsC W1 V1 x2 W2 V2 hl (hins none (.inr trivial) (by rw [hl];simp))
          · rename_i m hl
            split
            · exact hr
            · rename_i q0
              split
              · exact hr
              · rename_i q1
                split
                · exact hr
                · rename_i q2
                  split
                  · exact hr
                  · rename_i q3
                    have hro:RenOk F (Ac F X).2 m:=⟨q0,q1,q2,q3⟩
                    obtain ⟨e1,e2⟩:=FM h.toFsC x1 x2 hl hro
                    have hm:=(h.toFsC.look_lt hl).1
                    have hr2:Reach (Af F (Aa F Y).2.1 (Aa F Y).2.2 m):=hr.take h.toFsC (Dl hm) (Dz ..) hl hro.dead
                    have fre:∀ M k,Ao F 0 M=(0,k)→F.dir k=true→(∃ t j,Ai F.E k t=some j)→Ao (Af F (Aa F Y).2.1 (Aa F Y).2.2 m) 0 M=(0,k):=fun M k hw hk he=>
                      Hx (Dl hm) (fun k t hk=>by rw [Dz,BA,if_neg hk]) hl hro.dead M 0 k hw hk he
                    have hx2:Ai (Af F (Aa F Y).2.1 (Aa F Y).2.2 m).E (Aa F X).2.1 (Aa F X).2.2=some (Ac F X).2:=by rw [Dz,BA,if_neg e2];exact x2
                    have z:=hr2.moved (h.freed hl).toFsC (fre P _ W1 V1 ⟨_,_,x2⟩) (by rw [Dl hm];exact V1) hx2 (fre D _ W2 V2 ⟨_,_,hl⟩) (by rw [Dl hm];exact V2) (by rw [Dz,BA,if_pos ⟨rfl,rfl⟩]) (fun q=>hins none (.inr trivial) (by rw [hl];exact fun e=>q0 (Option.some.inj e)) (by rw [Dl hm] at q;exact q))
                    show Reach (movedF _ X _ _ _)
                    unfold movedF
                    rw [e1];exact z
        · exact hr
    · exact hr
  · exact hr
theorem Reach.do_ (hr:Reach F) (h:FsOk F) (c:Int) (x:CallM):Reach (doF F c x).1:=by
  unfold doF
  split
  · exact hr
  · refine Hn (Pr:=fun p=>Reach p.1) (hr.open_ h _ _) ?_ ?_ ?_ ?_ ?_ ?_ (hr.rmdir_ h) (hr.links_ h) (hr.unlink_ h) (hr.rename_ h) ?_ ?_ hr
    · unfold BM;split
      · exact hr
      · exact hr.same (fun i q=>q) rfl
    · unfold Ca;repeat' split
      all_goals exact hr
    · unfold Bc;split
      · exact hr
      · rename_i m hm
        repeat' split
        all_goals first | exact hr | exact hr.data h (h.toFsC.look_fd hm).1 _
    · unfold BF;split
      · exact hr
      · rename_i m hm
        repeat' split
        all_goals first | exact hr | exact hr.data h (h.toFsC.look_fd hm).1 _
    · unfold Cs;split<;>exact hr
    · unfold CC;split
      · exact hr
      · rename_i hf
        split
        · rename_i hp
          exact hr.put (fun i q=>Lv h true i q) rfl (CN hf hp) (He hp)
        · exact hr
    · unfold Cq;split<;>(try split)<;>exact hr
    · unfold Ci;split<;>(try split)<;>exact hr
theorem OX:Reach fs0:=fun x hx=>by cases hx
theorem Reach.drop_ (hr:Reach F) (c:Int):Reach (Ev F c):=hr.same (fun i q=>q) rfl
end
end
section
def IX (p q:FsM×RepM):Prop:=p.2=q.2∧∃ S,Iso S p.1 q.1
section
variable {S:Nat→Nat→Prop} {F G:FsM}
theorem Iso.get (h:Iso S F G) {i j:Nat} (hr:S i j) (s:ByteArray):(Ai F.E i s=none∧Ai G.E j s=none)∨∃ m m',Ai F.E i s=some m∧Ai G.E j s=some m'∧S m m':=by
  obtain ⟨h1,h2⟩:=h.e hr s
  cases hs:Ai F.E i s with
  | none=>exact .inl ⟨rfl,h2 hs⟩
  | some m=>obtain ⟨m',hm,hr'⟩:=h1 m hs;exact .inr ⟨m,m',rfl,hm,hr'⟩
theorem Iso.geto (h:Iso S F G) (c fd:Int):(Az F.O c fd=none∧Az G.O c fd=none)∨∃ m m',Az F.O c fd=some m∧Az G.O c fd=some m'∧S m m':=by
  obtain ⟨h1,h2⟩:=h.o c fd
  cases hs:Az F.O c fd with
  | none=>exact .inl ⟨rfl,h2 hs⟩
  | some m=>obtain ⟨m',hm,hr'⟩:=h1 m hs;exact .inr ⟨m,m',rfl,hm,hr'⟩
theorem Iso.eq_iff (h:Iso S F G) {i i2 j j2:Nat} (a:S i j) (b:S i2 j2):i=i2↔j=j2:=⟨fun e=>h.l (e ▸ a) b,fun e=>h.r (e ▸ a) b⟩
theorem Iso.walk (h:Iso S F G):∀ (M:List ByteArray) {i j:Nat},S i j→(Ao F i M).1=(Ao G j M).1∧((Ao F i M).1=0→S (Ao F i M).2 (Ao G j M).2)
  | [],i,j,hr=>⟨rfl,fun _=>hr⟩
  | s::M,i,j,hr=>by
    unfold Ao
    rw [← h.dir hr]
    split
    · rcases h.get hr s with ⟨e1,e2⟩ | ⟨m,m',e1,e2,hr'⟩
      · rw [e1,e2];exact ⟨rfl,fun q=>by cases q⟩
      · rw [e1,e2];exact h.walk M hr'
    · exact ⟨rfl,fun q=>by cases q⟩
theorem Iso.find (h:Iso S F G) (X:List UInt8):(Ac F X).1=(Ac G X).1∧((Ac F X).1=0→S (Ac F X).2 (Ac G X).2):=by
  unfold Ac
  split
  · exact ⟨rfl,fun q=>by cases q⟩
  · exact h.walk _ h.root
theorem Iso.place (h:Iso S F G) (X:List UInt8):(Aa F X).1=(Aa G X).1∧(Aa F X).2.2=(Aa G X).2.2∧((Aa F X).1=0→S (Aa F X).2.1 (Aa G X).2.1):=by
  unfold Aa
  split
  · exact ⟨rfl,rfl,fun q=>by cases q⟩
  · rename_i L _
    split
    · exact ⟨rfl,rfl,fun q=>by cases q⟩
    · unfold EO
      obtain ⟨w1,w2⟩:=h.walk L.dropLast h.root
      rw [← w1]
      by_cases q:(Ao F 0 L.dropLast).1=0
      · rw [if_pos q,if_pos q,← h.dir (w2 q)]
        split
        · exact ⟨rfl,rfl,fun _=>w2 q⟩
        · exact ⟨rfl,rfl,fun q=>by cases q⟩
      · rw [if_neg q,if_neg q]
        exact ⟨rfl,rfl,fun z=>absurd z q⟩
theorem Iso.free (h:Iso S F G) (c:Int):Dm F c=Dm G c:=by
  unfold Dm
  congr 1
  funext fd
  rcases h.geto c fd with ⟨e1,e2⟩ | ⟨m,m',e1,e2,_⟩<;>rw [e1,e2]<;>rfl
theorem Iso.cnt (h:Iso S F G) {δ δ2:Nat→Int} (hF:FsC F δ) (hG:FsC G δ2) {i j:Nat} (hr:S i j):BH F.E i=BH G.E j:=by
  have z:=congrArg List.length (h.names hF hG hr)
  rw [ET,ET] at z
  rw [Hk,Hk,z]
theorem Iso.put (h:Iso S F G) {d d' m m':Nat} {s:ByteArray} (hd:S d d') (hm:S m m') (hl:Ai F.E d s=none):Iso S (Bu F d s m) (Bu G d' s m') where
  root:=h.root
  l:=h.l
  r:=h.r
  lt:=h.lt
  nd:=h.nd
  o:=h.o
  e:=fun {i j} hr t=>by
    have hl2:=(h.e hd s).2 hl
    show (∀ m_1,Ai (F.E++[_]) i t=_→_)∧(Ai (F.E++[_]) i t=none→Ai (G.E++[_]) j t=none)
    have e1:=Dc (m:=m) hl i t
    have e2:=Dc (m:=m') hl2 j t
    have e3:(Bu G d' s m').E=G.E++[⟨d',s,m'⟩]:=rfl
    rw [e3,e1,e2]
    by_cases c:i=d∧t=s
    · have c2:j=d'∧t=s:=⟨(h.eq_iff hr hd).1 c.1,c.2⟩
      rw [if_pos c,if_pos c2]
      exact ⟨fun k q=>⟨m',rfl,(Option.some.inj q) ▸ hm⟩,fun q=>by cases q⟩
    · have c2:¬ (j=d'∧t=s):=fun q=>c ⟨(h.eq_iff hr hd).2 q.1,q.2⟩
      rw [if_neg c,if_neg c2]
      exact h.e hr t
theorem Iso.take (h:Iso S F G) {d d':Nat} (s:ByteArray) (hd:S d d'):Iso S (Aq F d s) (Aq G d' s) where
  root:=h.root
  l:=h.l
  r:=h.r
  lt:=h.lt
  nd:=h.nd
  o:=h.o
  e:=fun {i j} hr t=>by
    show (∀ m_1,Ai (BY F.E d s) i t=_→∃ m',Ai (BY G.E d' s) j t=_∧_)∧(Ai (BY F.E d s) i t=none→Ai (BY G.E d' s) j t=none)
    rw [BA,BA]
    by_cases c:i=d∧t=s
    · have c2:j=d'∧t=s:=⟨(h.eq_iff hr hd).1 c.1,c.2⟩
      rw [if_pos c,if_pos c2]
      exact ⟨fun k q=>(by cases q),fun _=>rfl⟩
    · have c2:¬ (j=d'∧t=s):=fun q=>c ⟨(h.eq_iff hr hd).2 q.1,q.2⟩
      rw [if_neg c,if_neg c2]
      exact h.e hr t
theorem Iso.set (h:Iso S F G) {n n':Nat} (hn:S n n') (x:NodeM):Iso S { F with N:=F.N.set n x } { G with N:=G.N.set n' x } where
  root:=h.root
  l:=h.l
  r:=h.r
  lt:=fun hr=>⟨by show _<(F.N.set n x).length;rw [List.length_set];exact (h.lt hr).1,by show _<(G.N.set n' x).length;rw [List.length_set];exact (h.lt hr).2⟩
  e:=h.e
  o:=h.o
  nd:=fun {i j} hr=>by
    have e1:=FsM.at_set (F:=F) (h.lt hn).1 x F.E F.O i
    have e2:=FsM.at_set (F:=G) (h.lt hn).2 x G.E G.O j
    refine e1.trans (Eq.trans ?_ e2.symm)
    by_cases c:i=n
    · rw [if_pos c,if_pos ((h.eq_iff hr hn).1 c)]
    · rw [if_neg c,if_neg (fun q=>c ((h.eq_iff hr hn).2 q))]
      exact h.nd hr
theorem Iso.link (h:Iso S F G) {n n':Nat} (hn:S n n') (i:Int):Iso S (BE F n i) (BE G n' i):=by
  have z:=h.set hn { F.at n with links:=(F.at n).links+i }
  have e:BE G n' i={ G with N:=G.N.set n' { F.at n with links:=(F.at n).links+i } }:=by unfold BE;rw [h.nd hn]
  rw [e];exact z
theorem Iso.data (h:Iso S F G) {n n':Nat} (hn:S n n') (d:List UInt8):Iso S (BX F n d) (BX G n' d):=by
  have z:=h.set hn { F.at n with data:=d }
  have e:BX G n' d={ G with N:=G.N.set n' { F.at n with data:=d } }:=by unfold BX;rw [h.nd hn]
  rw [e];exact z
theorem Iso.fd (h:Iso S F G) {c fd:Int} {m m':Nat} (hm:S m m') (hl:Az F.O c fd=none):Iso S (fdF F c fd m) (fdF G c fd m') where
  root:=h.root
  l:=h.l
  r:=h.r
  lt:=h.lt
  nd:=h.nd
  e:=h.e
  o:=fun c' fd'=>by
    have hl2:=(h.o c fd).2 hl
    show (∀ m_1,Az (F.O++[_]) c' fd'=_→∃ k,Az (G.O++[_]) c' fd'=_∧_)∧(Az (F.O++[_]) c' fd'=none→Az (G.O++[_]) c' fd'=none)
    rw [Gg hl,Gg hl2]
    by_cases q:c'=c∧fd'=fd
    · rw [if_pos q,if_pos q]
      exact ⟨fun k z=>⟨m',rfl,(Option.some.inj z) ▸ hm⟩,fun z=>by cases z⟩
    · rw [if_neg q,if_neg q];exact h.o c' fd'
theorem Iso.closed (h:Iso S F G) (c fd:Int):Iso S { F with O:=Da F.O c fd } { G with O:=Da G.O c fd } where
  root:=h.root
  l:=h.l
  r:=h.r
  lt:=h.lt
  nd:=h.nd
  e:=h.e
  o:=fun c' fd'=>by
    show (∀ m_1,Az (Da F.O c fd) c' fd'=_→∃ k,Az (Da G.O c fd) c' fd'=_∧_)∧(Az (Da F.O c fd) c' fd'=none→Az (Da G.O c fd) c' fd'=none)
    rw [In,In]
    split
    · exact ⟨fun k z=>(by cases z),fun _=>rfl⟩
    · exact h.o c' fd'
def TZ (S:Nat→Nat→Prop) (F G:FsM) (i j:Nat):Prop:=S i j∨(i=F.N.length∧j=G.N.length)
theorem Iso.node (h:Iso S F G) {δ δ2:Nat→Int} (hF:FsC F δ) (hG:FsC G δ2) (b:Bool):Iso (TZ S F G) (AL F b) (AL G b) where
  root:=.inl h.root
  l:=fun {i j j'} a c=>by
    rcases a with a | a<;>rcases c with c | c
    · exact h.l a c
    · have:=(h.lt a).1;omega
    · have:=(h.lt c).1;omega
    · omega
  r:=fun {i i' j} a c=>by
    rcases a with a | a<;>rcases c with c | c
    · exact h.r a c
    · have:=(h.lt a).2;omega
    · have:=(h.lt c).2;omega
    · omega
  lt:=fun {i j} a=>by
    rw [CF,CF]
    rcases a with a | a
    · have:=h.lt a;omega
    · omega
  nd:=fun {i j} a=>by
    rw [FB,FB]
    rcases a with a | a
    · have:=h.lt a
      rw [if_neg ω,if_neg ω];exact h.nd a
    · rw [if_pos a.1,if_pos a.2]
  o:=fun c fd=>by
    obtain ⟨h1,h2⟩:=h.o c fd
    exact ⟨fun m hm=>by obtain ⟨m',q,r⟩:=h1 m hm;exact ⟨m',q,.inl r⟩,h2⟩
  e:=fun {i j} a s=>by
    rcases a with a | a
    · obtain ⟨h1,h2⟩:=h.e a s
      exact ⟨fun m hm=>by obtain ⟨m',q,r⟩:=h1 m hm;exact ⟨m',q,.inl r⟩,h2⟩
    · have key:∀ {H:FsM} {ε:Nat→Int},FsC H ε→Ai H.E H.N.length s=none:=fun {H ε} hH=>by
        cases hl:Ai H.E H.N.length s with
        | none=>rfl
        | some m=>
          obtain ⟨x,hx,e,_⟩:=BL hl
          have:=(hH.e x hx).1.1;omega
      rw [a.1,a.2]
      exact ⟨fun m hm=>(by rw [show (AL F b).E=F.E from rfl,key hF] at hm;cases hm),fun _=>key hG⟩
end
theorem Pe {Pr:FsM×RepM→FsM×RepM→Prop} {F G:FsM} {c:Int} {x:CallM} (h1:Pr (AT F c x.p1 x.fl) (AT G c x.p1 x.fl)) (h2:Pr (BM F c x.fd) (BM G c x.fd)) (h3:Pr (Ca F c x.fd x.off x.n) (Ca G c x.fd x.off x.n)) (h4:Pr (Bc F c x.fd x.off x.data) (Bc G c x.fd x.off x.data)) (h5:Pr (BF F c x.fd x.n) (BF G c x.fd x.n)) (h6:Pr (Cs F c x.fd) (Cs G c x.fd)) (h7:Pr (CC F x.p1) (CC G x.p1)) (h8:Pr (Bo F x.p1) (Bo G x.p1)) (h9:Pr (AQ F x.p1 x.p2) (AQ G x.p1 x.p2)) (h10:Pr (Cc F x.p1) (Cc G x.p1)) (h11:Pr (Am F x.p1 x.p2) (Am G x.p1 x.p2)) (h12:Pr (Cq F x.p1) (Cq G x.p1)) (h13:Pr (Ci F x.p1) (Ci G x.p1)) (h0:Pr (F,Au 15) (G,Au 15)):Pr (Er F c x) (Er G c x):=by
  unfold Er
  by_cases k1:x.kind=1
  · rw [if_pos k1,if_pos k1];exact h1
  rw [if_neg k1,if_neg k1]
  by_cases k2:x.kind=2
  · rw [if_pos k2,if_pos k2];exact h2
  rw [if_neg k2,if_neg k2]
  by_cases k3:x.kind=3
  · rw [if_pos k3,if_pos k3];exact h3
  rw [if_neg k3,if_neg k3]
  by_cases k4:x.kind=4
  · rw [if_pos k4,if_pos k4];exact h4
  rw [if_neg k4,if_neg k4]
  by_cases k5:x.kind=5
  · rw [if_pos k5,if_pos k5];exact h5
  rw [if_neg k5,if_neg k5]
  by_cases k6:x.kind=6
  · rw [if_pos k6,if_pos k6];exact h6
  rw [if_neg k6,if_neg k6]
  by_cases k7:x.kind=7
  · rw [if_pos k7,if_pos k7];exact h7
  rw [if_neg k7,if_neg k7]
  by_cases k8:x.kind=8
  · rw [if_pos k8,if_pos k8];exact h8
  rw [if_neg k8,if_neg k8]
  by_cases k9:x.kind=9
  · rw [if_pos k9,if_pos k9];exact h9
  rw [if_neg k9,if_neg k9]
  by_cases k10:x.kind=10
  · rw [if_pos k10,if_pos k10];exact h10
  rw [if_neg k10,if_neg k10]
  by_cases k11:x.kind=11
  · rw [if_pos k11,if_pos k11];exact h11
  rw [if_neg k11,if_neg k11]
  by_cases k12:x.kind=12
  · rw [if_pos k12,if_pos k12];exact h12
  rw [if_neg k12,if_neg k12]
  by_cases k13:x.kind=13
  · rw [if_pos k13,if_pos k13];exact h13
  rw [if_neg k13,if_neg k13]
  exact h0
theorem Db (e:Int) {S:Nat→Nat→Prop} {F G:FsM} (h:Iso S F G):IX (F,Au e) (G,Au e):=⟨rfl,S,h⟩
theorem Fw {S:Nat→Nat→Prop} {F G:FsM} (h:Iso S F G) {r s:RepM} (e:r=s):IX (F,r) (G,s):=⟨e,S,h⟩
section
variable {S:Nat→Nat→Prop} {F G:FsM} {δ δ2:Nat→Int} {X Y:List UInt8}
theorem Iso.open_ (h:Iso S F G) (hF:FsC F δ) (hG:FsC G δ2) (c fl:Int):IX (AT F c X fl) (AT G c X fl):=by
  obtain ⟨f1,f2⟩:=h.find X
  obtain ⟨p1,p2,p3⟩:=h.place X
  unfold AT
  rw [← f1,← h.free c,← p1,← p2]
  split
  · split
    · rename_i hf
      rw [← h.dir (f2 hf)]
      split
      · exact Db _ h
      · split
        · exact Db _ h
        · cases hq:Dm F c with
          | none=>exact Db _ h
          | some fd=>exact Fw (h.fd (f2 hf) (Dk hq).1) rfl
    · rename_i hf
      split
      · rename_i hc
        cases hq:Dm F c with
        | none=>exact Db _ h
        | some fd=>
          refine Fw (((h.node hF hG false).put (d:=(Aa F X).2.1) (.inl (p3 hc.2.1)) (.inr ⟨rfl,rfl⟩) ?_).fd (.inr ⟨rfl,rfl⟩) (Dk hq).1) rfl
          exact CN hf hc.2.1
      · exact Db _ h
  · exact Db _ h
theorem Iso.rename_ (h:Iso S F G) (hF:FsC F δ) (hG:FsC G δ2):IX (Am F X Y) (Am G X Y):=by
  obtain ⟨f1,f2⟩:=h.find X
  obtain ⟨p1,p2,p3⟩:=h.place Y
  obtain ⟨x1,x2,x3⟩:=h.place X
  unfold Am
  rw [← f1,← p1]
  split
  · rename_i hc
    have hn:¬ Ag X=some []:=fun e=>hc.2.1 (Cm.1 e)
    split
    · rename_i hf
      rw [← h.dir (f2 hf)]
      split
      · exact Db _ h
      · split
        · rename_i hp
          obtain ⟨y1,y2⟩:=Be hf hn
          unfold Bh
          rw [← p2]
          have hn2:=f2 hf
          rcases h.get (p3 hp) (Aa F Y).2.2 with ⟨e1,e2⟩ | ⟨m,m',e1,e2,hm⟩
          · rw [e1,e2]
            show IX (movedF F X _ _ _,_) (movedF G X _ _ _,_)
            unfold movedF
            rw [← x2]
            refine Fw ((h.take _ (x3 y1)).put (p3 hp) hn2 ?_) rfl
            show Ai (BY F.E _ _) _ _=none
            rw [BA];split;rfl;exact e1
          · rw [e1,e2]
            show IX (if m=_ then _ else _) (if m'=_ then _ else _)
            have hmn:=h.eq_iff hm hn2
            by_cases q0:m=(Ac F X).2
            · rw [if_pos q0,if_pos (hmn.1 q0)];exact Db _ h
            rw [if_neg q0,if_neg (fun z=>q0 (hmn.2 z)),← h.dir hn2,← h.dir hm,← h.cnt hF hG hm]
            by_cases q1:F.dir (Ac F X).2=true∧F.dir m=false
            · rw [if_pos q1,if_pos q1];exact Db _ h
            rw [if_neg q1,if_neg q1]
            by_cases q2:F.dir (Ac F X).2=true∧0<BH F.E m
            · rw [if_pos q2,if_pos q2];exact Db _ h
            rw [if_neg q2,if_neg q2]
            by_cases q3:F.dir (Ac F X).2=false∧F.dir m=true
            · rw [if_pos q3,if_pos q3];exact Db _ h
            rw [if_neg q3,if_neg q3]
            have hfr:Iso S (Af F (Aa F Y).2.1 (Aa F Y).2.2 m) (Af G (Aa G Y).2.1 (Aa F Y).2.2 m'):=by
              unfold Af
              rw [← h.dir hm]
              split
              · exact h.take _ (p3 hp)
              · exact (h.take _ (p3 hp)).link hm (-1)
            obtain ⟨z1,z2,z3⟩:=hfr.place X
            have hro:RenOk F (Ac F X).2 m:=⟨q0,q1,q2,q3⟩
            obtain ⟨e3,e4⟩:=FM hF y1 y2 e1 hro
            have y3:(Aa (Af F (Aa F Y).2.1 (Aa F Y).2.2 m) X).1=0:=by rw [e3];exact y1
            show IX (movedF _ X _ _ _,_) (movedF _ X _ _ _,_)
            unfold movedF
            rw [← z2]
            refine Fw ((hfr.take _ (z3 y3)).put (p3 hp) hn2 ?_) rfl
            show Ai (BY (Af F _ _ m).E _ _) _ _=none
            rw [BA,Dz]
            split
            · rfl
            · rw [BA,if_pos ⟨rfl,rfl⟩]
        · exact Db _ h
    · exact Db _ h
  · exact Db _ h
theorem Iso.links_ (h:Iso S F G):IX (AQ F X Y) (AQ G X Y):=by
  obtain ⟨f1,f2⟩:=h.find X
  obtain ⟨p1,p2,p3⟩:=h.place Y
  unfold AQ
  rw [← f1,← p1,← p2]
  split
  · split
    · rename_i hf
      rw [← h.dir (f2 hf),← h.nd (f2 hf)]
      split
      · exact Db _ h
      · split
        · exact Db _ h
        · split
          · rename_i hp
            rcases h.get (p3 hp) (Aa F Y).2.2 with ⟨e1,e2⟩ | ⟨m,m',e1,e2,hm⟩
            · rw [e1,e2]
              have z:¬ (none:Option Nat).isSome=true:=by decide
              rw [if_neg z,if_neg z]
              split
              · exact Db _ h
              · exact Fw ((h.put (p3 hp) (f2 hf) e1).link (f2 hf) 1) rfl
            · rw [e1,e2]
              rw [if_pos (show (some m).isSome=true from rfl),if_pos (show (some m').isSome=true from rfl)];exact Db _ h
          · exact Db _ h
    · exact Db _ h
  · exact Db _ h
theorem Iso.do_ (h:Iso S F G) (hF:FsC F δ) (hG:FsC G δ2) (c:Int) (x:CallM):IX (doF F c x) (doF G c x):=by
  unfold doF
  split
  · exact Db _ h
  · obtain ⟨f1,f2⟩:=h.find x.p1
    obtain ⟨p1,p2,p3⟩:=h.place x.p1
    refine Pe (Pr:=IX) ?_ ?_ ?_ ?_ ?_ ?_ ?_ ?_ ?_ ?_ ?_ ?_ ?_ ?_
    · exact h.open_ hF hG _ _
    · unfold BM
      rcases h.geto c x.fd with ⟨e1,e2⟩ | ⟨m,m',e1,e2,hm⟩<;>rw [e1,e2]
      · exact Db _ h
      · exact Fw (h.closed _ _) rfl
    · unfold Ca
      rcases h.geto c x.fd with ⟨e1,e2⟩ | ⟨m,m',e1,e2,hm⟩<;>rw [e1,e2]
      · exact Db _ h
      · show IX (if _ then _ else _) (if _ then _ else _)
        rw [h.nd hm]
        split
        · exact Db _ h
        · exact Fw h rfl
    · unfold Bc
      rcases h.geto c x.fd with ⟨e1,e2⟩ | ⟨m,m',e1,e2,hm⟩<;>rw [e1,e2]
      · exact Db _ h
      · show IX (if _ then _ else _) (if _ then _ else _)
        split
        · exact Db _ h
        · split
          · exact Db _ h
          · split
            · exact Db _ h
            · rw [h.nd hm];exact Fw (h.data hm _) rfl
    · unfold BF
      rcases h.geto c x.fd with ⟨e1,e2⟩ | ⟨m,m',e1,e2,hm⟩<;>rw [e1,e2]
      · exact Db _ h
      · show IX (if _ then _ else _) (if _ then _ else _)
        split
        · exact Db _ h
        · split
          · exact Db _ h
          · rw [h.nd hm];exact Fw (h.data hm _) rfl
    · unfold Cs
      rcases h.geto c x.fd with ⟨e1,e2⟩ | ⟨m,m',e1,e2,hm⟩<;>rw [e1,e2]<;>exact Db _ h
    · unfold CC
      rw [← f1,← p1,← p2]
      split
      · exact Db _ h
      · rename_i hf
        split
        · rename_i hp
          exact Fw ((h.node hF hG true).put (d:=(Aa F x.p1).2.1) (.inl (p3 hp)) (.inr ⟨rfl,rfl⟩) (CN hf hp)) rfl
        · exact Db _ h
    · unfold Bo
      rw [← f1,← p2]
      split
      · exact Db _ h
      · rename_i hX
        split
        · rename_i hf
          rw [← h.dir (f2 hf),← h.cnt hF hG (f2 hf)]
          split
          · split
            · exact Db _ h
            · exact Fw (h.take _ (p3 (Be hf (fun e=>hX (Cm.1 e))).1)) rfl
          · exact Db _ h
        · exact Db _ h
    · exact h.links_
    · unfold Cc
      rw [← f1,← p2]
      split
      · rename_i hf
        rw [← h.dir (f2 hf)]
        split
        · exact Db _ h
        · rename_i hd
          have hn:¬ Ag x.p1=some []:=fun e=>hd (hF.root_dir e)
          exact Fw ((h.take _ (p3 (Be hf hn).1)).link (f2 hf) (-1)) rfl
      · exact Db _ h
    · exact h.rename_ hF hG
    · unfold Cq
      rw [← f1]
      split
      · rename_i hf
        rw [← h.dir (f2 hf)]
        split
        · exact Fw h (by rw [h.names hF hG (f2 hf)])
        · exact Db _ h
      · exact Db _ h
    · unfold Ci
      rw [← f1]
      split
      · rename_i hf
        rw [← h.dir (f2 hf)]
        split
        · exact Fw h (by rw [h.cnt hF hG (f2 hf)])
        · exact Fw h (by rw [h.nd (f2 hf)])
      · exact Db _ h
    · exact Db _ h
end
end
section
structure FsA (F:FsM) (A:AdM) (n:Nat):Prop where
 ok:FsOk F
 sz:SzF F n
 ad:AdOk F A n
theorem SzF.le {F:FsM} {m n:Nat} (h:SzF F m) (hm:m≤n):SzF F n:=⟨by have:=h.1;omega,by have:=h.2.1;omega,by have:=h.2.2;omega⟩
theorem AdOk.le {F:FsM} {A:AdM} {m n:Nat} (h:AdOk F A m) (hm:m≤n):AdOk F A n:=⟨h.ld,Nat.le_trans h.hB hm,Nat.le_trans h.hC hm⟩
theorem FsA.le {F:FsM} {A:AdM} {m n:Nat} (h:FsA F A m) (hm:m≤n):FsA F A n:=⟨h.ok,h.sz.le hm,h.ad.le hm⟩
theorem Sn {w:World} {cf ob n:Nat} {F G:FsM} {r:RepM} {A:AdM} {R:List Ch} {c:Int} {x:CallM} (hS0:Sep w ((cP cf ob F A)++R)) (h:FsA F A n) (hn:n≤800) (h1:x.p1.length≤1000) (h2:x.p2.length≤1000) (h3:x.data.length≤1000) (hxf:(Lit.int .i64 x.fd).wf=true) (e:doF F c x=(G,r)) :
  CallsR Tryz.prog 14 #[π cf,ν c,.agg (cL x).toArray] w (fun v w'=>∃ A' sa sc,v=Du r sa sc∧Sep w' (Ak 0 9 1 sa r.names.length sc (r.names.flatMap sE)::(cP cf ob G A')++R)∧FsA G A' (n+1)):=by
 have z:=LO (c:=c) (x:=x) hS0 h.ok h.ad ω (h.sz.ss hn) h1 h2 h3 hxf
 have o:=h.ok.do_ c x
 have s:=h.sz.do_ c x
 rw [e] at z o s
 exact Calls.mono z fun e W' ⟨v,e1,A',sa,sc,e2,q,hA⟩=>⟨v,e1,A',sa,sc,e2,q,⟨o,s,hA⟩⟩
end
section
section
variable {F:FsM} {A:AdM} {c:Cp} {δ:Nat→Int}
theorem Qd (he:Ext F cpE c) (h0:0∈c.K∧c.og 0=0):∀ (q:Nat) (M:List ByteArray) (k:Nat),M.length=q→Ao F 0 M=(0,k)→k∈c.K:=by
  intro q
  induction q with
  | zero=>intro M k hq hM;have e:=List.eq_nil_of_length_eq_zero hq;subst e;have e:0=k:=(Prod.mk.inj hM).2;rw [← e];exact h0.1
  | succ q ih=>
    intro M k hq hM
    rcases CJ M with e | ⟨B,t,e⟩
    · subst e;cases hq
    subst e
    obtain ⟨a,ha,_,hla⟩:=FH hM
    have hk:=ih B a (by simpa using hq) ha
    obtain ⟨h1,h2⟩:=c.og_idx hk
    exact ((he.done _ (Nat.zero_le _) h1).1 t k (by rw [h2];exact hla)).1
theorem Mg (hF:FsC F δ) (hc:CpOk F A c) (he:Ext F cpE c) {x:EntM} (hx:x∈c.E):∃ y∈F.E,y.dn=c.og x.dn∧y.nm=x.nm∧y.nd∈c.K∧x.nd=c.K.idxOf y.nd:=by
  obtain ⟨h1,h2,y,hy,e1,e2⟩:=hc.e x hx
  have hl2:=EY hF.ed hy
  rw [e1,e2] at hl2
  obtain ⟨h3,h4⟩:=(he.done x.dn (Nat.zero_le _) h1).1 _ _ hl2
  rw [EY hc.ed hx] at h4
  exact ⟨y,hy,e1,e2,h3,by injection h4⟩
theorem Qe (hF:FsC F δ) (hr:Reach F) (hc:CpOk F A c) (he:Ext F cpE c) (h0:0∈c.K∧c.og 0=0) {p:Nat} (hp:p<c.K.length):EV c.E p=EV F.E (c.og p):=by
  have key:=fun x hx=>Mg hF hc he (x:=x) hx
  have back:∀ y∈F.E,y.dn∈c.K∧Ai c.E (c.K.idxOf y.dn) y.nm=some (c.K.idxOf y.nd)∧y.nd∈c.K:=fun y hy=>by
    obtain ⟨M,hM⟩:=hr y hy
    have hk:=Qd he h0 _ M _ rfl hM
    obtain ⟨h1,h2⟩:=c.og_idx hk
    obtain ⟨h3,h4⟩:=(he.done _ (Nat.zero_le _) h1).1 y.nm y.nd (by rw [h2];exact EY hF.ed hy)
    exact ⟨hk,h4,h3⟩
  unfold EV
  refine Nat.le_antisymm ?_ ?_
  · have z:=DA (A:=(c.E.filter fun x=>decide (x.nd=p)).map fun x=>(c.og x.dn,x.nm)) (B:=(F.E.filter fun x=>decide (x.nd=c.og p)).map fun y=>(y.dn,y.nm)) (by
      unfold List.Nodup
      rw [List.pairwise_map]
      refine List.Pairwise.imp_of_mem (fun {x y} hx hy hxy e=>hxy ?_) (List.Pairwise.filter _ hc.ed)
      obtain ⟨e1,e2⟩:=Prod.mk.inj e
      exact ⟨hc.og_inj (hc.e x (List.mem_filter.1 hx).1).1 (hc.e y (List.mem_filter.1 hy).1).1 e1,e2⟩) (fun a ha=>by
      obtain ⟨x,hx,rfl⟩:=List.mem_map.1 ha
      obtain ⟨h1,h2⟩:=List.mem_filter.1 hx
      obtain ⟨y,hy,e1,e2,h3,h4⟩:=key x h1
      refine List.mem_map.2 ⟨y,List.mem_filter.2 ⟨hy,decide_eq_true ?_⟩,by rw [e1,e2]⟩
      rw [← of_decide_eq_true h2,h4,(c.og_idx h3).2])
    rw [List.length_map,List.length_map] at z;exact z
  · have z:=DA (A:=(F.E.filter fun x=>decide (x.nd=c.og p)).map fun y=>(c.K.idxOf y.dn,y.nm)) (B:=(c.E.filter fun x=>decide (x.nd=p)).map fun x=>(x.dn,x.nm)) (by
      unfold List.Nodup
      rw [List.pairwise_map]
      refine List.Pairwise.imp_of_mem (fun {x y} hx hy hxy e=>hxy ?_) (List.Pairwise.filter _ hF.ed)
      obtain ⟨e1,e2⟩:=Prod.mk.inj e
      have a:=(c.og_idx (back x (List.mem_filter.1 hx).1).1).2
      have b:=(c.og_idx (back y (List.mem_filter.1 hy).1).1).2
      exact ⟨by rw [← a,← b,e1],e2⟩) (fun a ha=>by
      obtain ⟨y,hy,rfl⟩:=List.mem_map.1 ha
      obtain ⟨h1,h2⟩:=List.mem_filter.1 hy
      obtain ⟨h3,h4,h5⟩:=back y h1
      obtain ⟨x,hx,e1,e2,e3⟩:=BL h4
      refine List.mem_map.2 ⟨x,List.mem_filter.2 ⟨hx,decide_eq_true ?_⟩,by rw [e1,e2]⟩
      obtain ⟨q1,q2⟩:=c.og_idx h5
      rw [e3]
      exact hc.og_inj q1 hp (by rw [q2,of_decide_eq_true h2]))
    rw [List.length_map,List.length_map] at z;exact z
theorem RE {n:Nat} {g2:Int×Int→Option (Option Nat)} {left:Int×Int→Bool} (hF:FsOk F) (hr:Reach F) (hc:CpOk F A c) (he:Ext F cpE c) (h0:0∈c.K∧c.og 0=0) (ho:ComeO F c g2 left n) (hl:∀ p,wfD p→left p=false):FsOk (BR F c):=by
  obtain ⟨δ2,h⟩:=Qf hF.toFsC hc he h0 ho hl
  have hlen:(BR F c).N.length=c.K.length:=List.length_map ..
  refine h.ok (fun i hi hd=>?_) (fun i hi _=>?_)
  · rw [hlen] at hi
    have a:=(h.k i (by rw [hlen];exact hi)).2.2 hd
    have ea:(BR F c).at i=F.at (c.og i):=Cp.at F c hi
    have b:=(hF.k _ (hc.lt _ (c.og_mem hi))).2.2 (by rw [← Fp F c hi];exact hd)
    rw [ea,b,show (BR F c).E=c.E from rfl,Qe hF.toFsC hr hc he h0 hi] at a
    omega
  · rw [hlen] at hi
    rw [show (BR F c).at i=F.at (c.og i) from Cp.at F c hi]
    exact hF.l20 _ (hc.lt _ (c.og_mem hi))
theorem RD {cf ob m:Nat} {R:List Ch} {w:World} (hS0:Sep w (cP cf ob F A++R)) (h:FsA F A m) (hm:m≤900) (hr:Reach F) :
    CallsR Tryz.prog 13 #[π cf] w (fun v w'=>∃ gf gb c A2 S,v=π gf∧Sep w' (cP gf gb (BR F c) A2++cP cf ob F A++R)∧Iso S F (BR F c)∧FsA (BR F c) A2 m):=
  Calls.mono (SC hS0 h.ok.toFsC (h.sz.sm hm)) fun e W' ⟨v,e1,gf,gb,n,g2,c,r0,e2,s,hc,he,hq,left,ho,hl⟩=>by
    obtain ⟨h0,hq⟩:=hq
    have hF:=h.ok.toFsC
    have i0:c.K.idxOf 0=0:=hc.og_inj (c.og_idx h0.1).1 (List.length_pos_of_mem h0.1) ((c.og_idx h0.1).2.trans h0.2.symm)
    rw [i0] at hq
    subst hq
    have s1:=Sep.tail_many (xs:=[_,_,_,_,_,_]) s
    have hmg:MapG KO W' gb n (opG (BR F c) { c.A with C:=n }):=MapG.cong (s1.get 5 rfl:MapG KO W' gb n g2) (RF hF ho hl)
    have s2:Sep W' [Av F A,Ah cf 65 [π (A.ad 0),.map (some ob)],AM KO ob A.C (opG F A),Ah gf 65 [π (c.A.ad 0),.map (some gb)],Av (c.fs F) c.A,AM KO gb n (opG (BR F c) { c.A with C:=n }),Ch.many R]:=
      s1.upd 5 rfl (Turns.refl (fun _=>False) W') (fun k _ e=>e.elim) (c':=AM KO gb n (opG (BR F c) { c.A with C:=n })) hmg (fun k e=>.inl e)
    have s3:Sep W' (cP gf gb (BR F c) { c.A with C:=n }++cP cf ob F A++[Ch.many R]):=s2.pick [3,4,5,1,0,2,6] (by decide) rfl
    have hn:n≤F.O.length:=by
      obtain ⟨V,h1,h2,h3⟩:=ho.v
      have z:=DA h1 (fun p hp=>(h3 p hp).2)
      rw [List.length_map,h2] at z;exact z
    have hlen:(BR F c).N.length=c.K.length:=List.length_map ..
    exact ⟨v,e1,gf,gb,c,_,_,e2,Sep.tail_un (xs:=[_,_,_,_,_,_]) s3,Qg hF hc he h0 ho hl,
      { ok:=RE h.ok hr hc he h0 ho hl
        sz:=⟨by rw [hlen];exact Nat.le_trans hc.len h.sz.1,Nat.le_trans hc.few h.sz.2.1,by show (F.O.map _).length≤_;rw [List.length_map];exact h.sz.2.2⟩
        ad:=⟨fun k hd hk=>by
            have hkl:k<c.K.length:=Nat.lt_of_not_le fun q=>by
              have z:(BR F c).dir k=false:=by unfold FsM.dir FsM.at;rw [List.getD_eq_getElem?_getD,List.getElem?_eq_none (by rw [hlen];exact q)];rfl
              rw [z] at hd;cases hd
            show c.A.ld k=1
            rw [hc.ld k hkl]
            refine h.ad.ld _ (by rw [← Fp F c hkl];exact hd) ?_
            rcases hk with e | ⟨x,hx,e⟩
            · rw [e];exact .inl h0.2
            · obtain ⟨y,hy,_,_,q1,q2⟩:=Mg hF hc he hx
              exact .inr ⟨y,hy,by rw [← e,q2,(c.og_idx q1).2]⟩,by show c.A.B≤m;rw [hc.B];exact Nat.le_trans hc.few h.sz.2.1,Nat.le_trans hn h.sz.2.2⟩ }⟩
theorem KF (f:Nat→AskV):∀ k,Reach (Cg f k)
  | 0=>OX
  | k+1=>by
    have h:=KF f k
    have h2:=Hw f k
    cases hd:(f k).drop with
    | true=>rw [Jm hd];exact h.drop_ _
    | false=>rw [Mb hd];exact h.do_ h2 _ _
end
end
section
def AN (F:FsM) (f:Nat→AskV):Nat→FsM
 | 0=>F
 | k+1=>(doF (AN F f k) (f k).cl (As (f k).x)).1
theorem FW (f:Nat→AskV) {F:FsM} (h:FsOk F):∀ k,FsOk (AN F f k)
 | 0=>h
 | k+1=>(FW f h k).do_ _ _
theorem Jt (f:Nat→AskV) {S:Nat→Nat→Prop} {F G:FsM} (h:Iso S F G) (hF:FsOk F) (hG:FsOk G):∀ k,∃ S2,Iso S2 (AN F f k) (AN G f k)
 | 0=>⟨S,h⟩
 | k+1=>by
  obtain ⟨S2,h2⟩:=Jt f h hF hG k
  exact (h2.do_ (FW f hF k).toFsC (FW f hG k).toFsC (f k).cl (As (f k).x)).2
theorem Pv {W w:World} {R:List Ch} {a0:Option Addr} {n0 c0 most:Nat} {f:Nat→AskV} (hS0:Sep w ([Ip W W.heap.size]++R)) (rb:JN W a0 n0 c0 f) (hm:most≤60) :
  CallsR Tryz.prog 11 #[.slice a0 n0 c0,ν (most:Int)] w (fun v w'=>∃ cf ob F A df na nc ea ec oa oc,v=.tuple #[π cf,π df,.bool true]∧Sep w' ((cP cf ob F A)++(dP df na nc ea ec oa oc F)++[Ip W W.heap.size]++R)∧FsA F A most∧Reach F):=
 Calls.mono (QX hS0 rb hm) fun e W' ⟨v,e1,cf,ob,A,df,na,nc,ea,ec,oa,oc,e2,s,hA⟩=>⟨v,e1,cf,ob,_,A,df,na,nc,ea,ec,oa,oc,e2,s,⟨Hw _ _,(GC f _).le (Nat.min_le_right _ _),hA.le (Nat.min_le_right _ _)⟩,KF f _⟩
theorem GO (args:Array Value) (w:World):(callFunc 13 args).run Tryz.prog w=.ok (.enter 13 args) w:=by
 have h:=Tryz.func13
 go_simp
theorem DL (args:Array Value) (w:World):(callFunc 17 args).run Tryz.prog w=.ok (.enter 17 args) w:=by
 have h:=Tryz.func17
 go_simp
theorem PosixCopies_walk (W:World) (a0:Option Addr) (n0 c0:Nat) (f:Nat→AskV) (rb:JN W a0 n0 c0 f) (a1:Option Addr) (n1 c1:Nat) (g:Nat→AskV) (rb1:JN W a1 n1 c1 g) :
  Calls Tryz.prog 5 #[.slice a0 n0 c0,.slice a1 n1 c1] W fun e W'=>e=.returned (.bool true)∧Below W.heap.size W W':=by
 obtain ⟨hY0,hw1⟩:=rb1;obtain ⟨bY,oY,hY⟩:=hY0.at;have hn1:=hY0.lt;unfold maxLen at hn1
 have hS:Sep W [Ip W W.heap.size]:=Sep.start W
 suffices hZ:CallsR Tryz.prog 5 #[.slice a0 n0 c0,.slice a1 n1 c1] W (fun v W'=>v=.bool true∧Below W.heap.size W W') from Calls.mono hZ fun e W' ⟨v,e1,e2,h⟩=>⟨by rw [e1,e2],h⟩
 refine AB Tryz.func5 rfl (N:=101) Tryz.ntmps5 (by show 2≤101;decide) [(0,.slice a0 n0 c0),(1,.slice a1 n1 c1)] rfl fun _ h1=>sqr fun _ hK3=>mv h1 rfl fun _ h4=>wpList_nil<|hK3 _ _<|sqr fun _ hK6=>mv h4 rfl fun _ h7=>cl h7 rfl Gu (Pv (most:=30) hS rb (by decide)) fun _ v1 w2 r1 h2=>?_
 obtain ⟨cf,ob,F,Ax9,df,nax10,ncx11,eax12,ecx13,oax14,ocx15,rfl,s1,hA20,hR20⟩:=r1
 refine mvs 7 h2 rfl fun _ h3=>h3.sn [7,6,5,4,0,1] rfl fun h5=>hK6 _ _<|sq fun _ hK1=>sqr fun _ hK2=>mvs 2 h5 rfl fun _ h6=>h6.sn [20,7,6,5,4,0,1] rfl fun h8=>hK2 _ _<|wcF h8 rfl rfl<|h8.sk [7,6,5,4,0,1] rfl fun h9=>wp_skip<|hK1 _ _ ?_
 refine sqr fun _ hK4=>mv h9 rfl fun _ h10=>cl h10 rfl GO (RD (cf:=cf) (ob:=ob) (A:=Ax9) (F:=F) s1 hA20 ω hR20) fun _ v2 w3 r2 h11=>?_
 obtain ⟨gfx49,gbx50,ccx51,Ax52,Sx53,rfl,s2,hI58,hGA58⟩:=r2
 have hrw:=hI58.rows hA20.ok.toFsC hGA58.ok.toFsC
 have q1:Ec (Cx F) (Cx (BR F ccx51))=true:=ER.2 hrw
 have q2:Ec (Cx (BR F ccx51)) (Cx F)=true:=ER.2 hrw.symm
 refine mv h11 rfl fun _ h12=>h12.sn [8,7,6,5,4,0,1] rfl fun h13=>hK4 _ _<|sq fun _ hK5=>sqr fun _ hK7=>mv h13 rfl fun _ h14=>bv h14 rfl (IY _ υ23 _ _ _) fun _ h15=>mv h15 rfl fun _ h16=>sv h16 (wF h16 (E:=false) rfl rfl rfl) rfl rfl rfl (v:=π gfx49) (Ap h16 rfl rfl) fun _ h17=>sv h17 (wF h17 (E:=false) rfl rfl rfl) rfl rfl rfl (v:=π cf) (Ap h17 rfl rfl) fun _ h18=>so (wF h18 (E:=false) rfl rfl rfl) fun _ hK8=>CS h18 rfl rfl rfl (xs:=[.tmp 26,.tmp 27]) rfl DL rfl (vs:=[π gfx49,π cf]) rfl (args:=#[π gfx49,π cf]) rfl (NN s2 hGA58.ok.toFsC (hGA58.sz.sm ω) hA20.ok.toFsC (hA20.sz.sm ω)) fun _ v3 w4 r3 h19=>hK8 _ _ ?_
 obtain ⟨rfl,s3⟩:=r3
 refine sv h19 (wF h19 (E:=false) rfl rfl rfl) rfl rfl rfl (v:=.bool (!(Ec (Cx (BR F ccx51)) (Cx F)))) (NL h19 rfl (b:=Ec (Cx (BR F ccx51)) (Cx F)) rfl) fun _ h20=>sv1 h20 rfl (v:=.bool (!(Ec (Cx (BR F ccx51)) (Cx F)))) (Ed h20 rfl rfl rfl) fun _ h21=>mv h21 rfl fun _ h22=>sv h22 ((wF h22 rfl rfl rfl).trans (BC (Bq q2))) rfl rfl rfl (v:=π cf) (Ap h22 rfl rfl) fun _ h23=>sv h23 ((wF h23 rfl rfl rfl).trans (BC (Bq q2))) rfl rfl rfl (v:=π gfx49) (Ap h23 rfl rfl) fun _ h24=>so ((wF h24 rfl rfl rfl).trans (BC (Bq q2))) fun _ hK9=>CS h24 rfl rfl rfl (xs:=[.tmp 32,.tmp 33]) rfl DL rfl (vs:=[π cf,π gfx49]) rfl (args:=#[π cf,π gfx49]) rfl (NN (s3.pk [3,4,5,0,1,2,6,7,8,9,10] rfl) hA20.ok.toFsC (hA20.sz.sm ω) hGA58.ok.toFsC (hGA58.sz.sm ω)) fun _ v4 w5 r4 h25=>hK9 _ _ ?_
 obtain ⟨rfl,s4⟩:=r4
 refine sv h25 ((wF h25 rfl rfl rfl).trans (BC (Bq q2))) rfl rfl rfl (v:=.bool (!(Ec (Cx F) (Cx (BR F ccx51))))) (NL h25 rfl (b:=Ec (Cx F) (Cx (BR F ccx51))) rfl) fun _ h26=>sv1 h26 rfl (v:=.bool (!(Ec (Cx F) (Cx (BR F ccx51))))) (BT h26 rfl (E:=(!(Ec (Cx (BR F ccx51)) (Cx F)))) (b:=false) rfl (Bq q2) rfl) fun _ h27=>h27.sn [36,8,7,6,5,4,0,1] rfl fun h28=>hK7 _ _<|wcF h28 rfl (Bq q1)<|h28.sk [8,7,6,5,4,0,1] rfl fun h29=>wp_skip<|hK5 _ _<|sq fun _ hK10=>sq fun _ hK11=>?_
 have hF0:=hA20
 have hG0:=hGA58
 refine wp_region_lit<|mv h29 rfl fun _ h30=>wpList_nil<|hK11 _ _<|wp_block ?_
 have s5:Sep w5 [Ah gfx49 65 [π (Ax52.ad 0),.map (some gbx50)],Av (AN (BR F ccx51) g 0) Ax52,AM KO gbx50 Ax52.C (opG (AN (BR F ccx51) g 0) Ax52),Ah cf 65 [π (Ax9.ad 0),.map (some ob)],Av F Ax9,AM KO ob Ax9.C (opG F Ax9),Ah df 51 [.slice nax10 F.N.length ncx11,.slice eax12 F.E.length ecx13,.slice oax14 F.O.length ocx15],Ak 0 88 3 nax10 F.N.length ncx11 (F.N.flatMap CZ),Ak 0 114 3 eax12 F.E.length ecx13 (F.E.flatMap CM),Ak 0 93 3 oax14 F.O.length ocx15 (F.O.flatMap CI),Ip W W.heap.size]:=(s4.pk [3,4,5,0,1,2,6,7,8,9,10] rfl)
 refine Hj (fun (k:Nat) (B:AdM) a' w'=>Kn 101 [(9,ν (k:Int)),(8,π gfx49),(7,.bool true),(6,π df),(5,π cf),(4,.bool false),(0,.slice a0 n0 c0),(1,.slice a1 n1 c1)] a'∧Sep w' [Ah gfx49 65 [π (B.ad 0),.map (some gbx50)],Av (AN (BR F ccx51) g k) B,AM KO gbx50 B.C (opG (AN (BR F ccx51) g k) B),Ah cf 65 [π (Ax9.ad 0),.map (some ob)],Av F Ax9,AM KO ob Ax9.C (opG F Ax9),Ah df 51 [.slice nax10 F.N.length ncx11,.slice eax12 F.E.length ecx13,.slice oax14 F.O.length ocx15],Ak 0 88 3 nax10 F.N.length ncx11 (F.N.flatMap CZ),Ak 0 114 3 eax12 F.E.length ecx13 (F.E.flatMap CM),Ak 0 93 3 oax14 F.O.length ocx15 (F.O.flatMap CI),Ip W W.heap.size]∧(FsA (AN (BR F ccx51) g k) B (30+k))∧(k≤10∧k≤n1)) (fun (k:Nat) (B:AdM)=>10-k) 0 Ax52 ⟨h30.subs rfl,s5,(hGA58:FsA (BR F ccx51) Ax52 30),ω⟩ ?_
 rintro k1 B119 a2 w6 ⟨h31,s6,hGA2116,hk117⟩ K1 hK12
 refine sq fun _ hK13=>sqr fun _ hK14=>mvs 2 h31 rfl fun _ h32=>sv1 h32 rfl (v:=ν (n1:Int)) (CR h32 rfl rfl υ22) fun _ h33=>bv h33 (z:=.bool (decide ((k1:Int)<(n1:Int)))) rfl (cLt _ _ _ _ rfl) fun _ h34=>mv h34 rfl fun _ h35=>sg h35 (wT h35 rfl rfl rfl) rfl rfl rfl (v:=ν (k1:Int)) (fun hC1=>by have hq:=(dT hC1);exact Ap h35 rfl rfl _) fun _ h36=>sg h36 (wT h36 rfl rfl rfl) rfl rfl rfl (v:=.bool (decide ((k1:Int)<10))) (fun hC2=>by have hq:=(dT hC2);exact BG h36 rfl (opg rfl hC2) rfl (cLt _ _ _ _ rfl) _) fun _ h37=>sv1 h37 rfl (v:=.bool ((decide ((k1:Int)<(n1:Int)))&&(decide ((k1:Int)<10)))) (DJ h37 rfl (E:=(decide ((k1:Int)<(n1:Int)))) (F:=(decide ((k1:Int)<10))) rfl rfl rfl (fun e=>if_pos (by rw [e];try rfl))) fun _ h38=>h38.sn [44,9,8,7,6,5,4,0,1] rfl fun h39=>hK14 _ _ ?_
 rcases bC ((decide ((k1:Int)<(n1:Int)))&&(decide ((k1:Int)<10))) with hc1 | hc1
 ·skip
  have hp1:((k1:Int)<(n1:Int))∧((k1:Int)<10):=(And.intro (dT (AA hc1).1) (dT (AA hc1).2))
  refine wcT h39 rfl hc1<|h39.sk [9,8,7,6,5,4,0,1] rfl fun h40=>wp_skip<|hK13 _ _<|sq fun _ hK15=>wp_block ?_
  have s7:=s6.drew
  refine wp_region_held_drew (S:=fun w'=>Sep w' [Ah cf 65 [π (Ax9.ad 0),.map (some ob)],Av F Ax9,AM KO ob Ax9.C (opG F Ax9),Ah df 51 [.slice nax10 F.N.length ncx11,.slice eax12 F.E.length ecx13,.slice oax14 F.O.length ocx15],Ak 0 88 3 nax10 F.N.length ncx11 (F.N.flatMap CZ),Ak 0 114 3 eax12 F.E.length ecx13 (F.E.flatMap CM),Ak 0 93 3 oax14 F.O.length ocx15 (F.O.flatMap CI),Ip W W.heap.size]) κ (s7.pk [3,4,5,6,7,8,9,10] rfl) (fun hq1=>?_)
  refine tv1 hq1 h40 0 rfl rfl (v:=π gfx49) (fun w1 _=>(Ap h40 rfl rfl) w1) fun _ h41=>?_
  refine tv1 hq1 h41 1 rfl rfl (v:=.slice a1 n1 c1) (fun w1 _=>(Ap h41 rfl rfl) w1) fun _ h42=>?_
  refine tv1 hq1 h42 2 rfl rfl (v:=ν (k1:Int)) (fun w1 _=>(Ap h42 rfl rfl) w1) fun _ h43=>?_
  refine tv1 hq1 h43 3 rfl rfl (v:=.pointer (some ⟨bY,oY+k1*10,none⟩)) (fun w1 _=>(Aw h43 rfl rfl rfl (fun w=>ixO υ22 κ (sz:=10) (hY ω).1 (j:=k1) rfl ω rfl w)) w1) fun _ h44=>?_
  refine tv1 hq1 h44 4 rfl rfl (v:=.pointer (some ⟨bY,oY+k1*10+0,none⟩)) (fun w1 _=>(rfa h44 rfl rfl (fun w=>BS bY (oY+k1*10) w)) w1) fun _ h45=>?_
  refine tv1 hq1 h45 5 rfl rfl (v:=ν ((g k1).cl)) (fun w1 hSw=>(rld h45 rfl rfl (My (sz:=10) (n:=n1) (f:=(fun i=>Iy (g i))) υ3 rfl (hY ω).2 (Nat.le_refl _) (hSw.get 7 rfl:Below _ _ _∧_) (j:=k1) (i:=0) ω rfl rfl))) fun _ h46=>?_
  refine tv1 hq1 h46 6 rfl rfl (v:=.slice a1 n1 c1) (fun w1 _=>(Ap h46 rfl rfl) w1) fun _ h47=>?_
  refine tv1 hq1 h47 7 rfl rfl (v:=ν (k1:Int)) (fun w1 _=>(Ap h47 rfl rfl) w1) fun _ h48=>?_
  refine tv1 hq1 h48 8 rfl rfl (v:=.pointer (some ⟨bY,oY+k1*10,none⟩)) (fun w1 _=>(Aw h48 rfl rfl rfl (fun w=>ixO υ22 κ (sz:=10) (hY ω).1 (j:=k1) rfl ω rfl w)) w1) fun _ h49=>?_
  refine tv1 hq1 h49 9 rfl rfl (v:=.pointer (some ⟨bY,oY+k1*10+1,none⟩)) (fun w1 _=>(rfa h49 rfl rfl (fun w=>DI bY (oY+k1*10) w)) w1) fun _ h50=>?_
  refine tv1 hq1 h50 10 rfl rfl (v:=.agg #[ν ((g k1).x.kind),σ ((g k1).x.p1),σ ((g k1).x.p2),ν ((g k1).x.fl),ν ((g k1).x.fd),ν ((g k1).x.off),ν ((g k1).x.n),σ ((g k1).x.data)]) (fun w1 hSw=>(rld h50 rfl rfl (SJ (sz:=10) (n:=n1) (f:=(fun i=>Iy (g i))) υ30 rfl κ (hY ω).2 (Nat.le_refl _) (hSw.get 7 rfl:Below _ _ _∧_) (j:=k1) (i:=1) ω rfl (cs:=[ν ((g k1).x.kind),σ ((g k1).x.p1),σ ((g k1).x.p2),ν ((g k1).x.fl),ν ((g k1).x.fd),ν ((g k1).x.off),ν ((g k1).x.n),σ ((g k1).x.data)]) rfl rfl))) fun _ h51=>?_
  refine to_ 11 rfl (wn rfl) κ fun _ hK16=>CS h51 rfl rfl rfl (xs:=[.tmp 57]) rfl DW rfl (vs:=[.agg #[ν ((g k1).x.kind),σ ((g k1).x.p1),σ ((g k1).x.p2),ν ((g k1).x.fl),ν ((g k1).x.fd),ν ((g k1).x.off),ν ((g k1).x.n),σ ((g k1).x.data)]]) rfl (args:=#[.agg #[ν ((g k1).x.kind),σ ((g k1).x.p1),σ ((g k1).x.p2),ν ((g k1).x.fl),ν ((g k1).x.fd),ν ((g k1).x.off),ν ((g k1).x.n),σ ((g k1).x.data)]]) rfl (Qi s7 ((g k1).x)) fun _ v5 w7 r5 h52=>?_
  obtain ⟨rfl,s8⟩:=r5
  refine hK16 _ _ (s8.pk [3,4,5,6,7,8,9,10] rfl) fun hq2=>?_
  refine to_ 12 rfl (wn rfl) κ fun _ hK17=>CS h52 rfl rfl rfl (xs:=[.tmp 47,.tmp 52,.tmp 58]) rfl Ce rfl (vs:=[π gfx49,ν ((g k1).cl),.agg #[ν ((As ((g k1).x)).kind),σ ((As ((g k1).x)).p1),σ ((As ((g k1).x)).p2),ν ((As ((g k1).x)).fl),ν ((As ((g k1).x)).fd),ν ((As ((g k1).x)).off),ν ((As ((g k1).x)).n),σ ((As ((g k1).x)).data)]]) rfl (args:=#[π gfx49,ν ((g k1).cl),.agg #[ν ((As ((g k1).x)).kind),σ ((As ((g k1).x)).p1),σ ((As ((g k1).x)).p2),ν ((As ((g k1).x)).fl),ν ((As ((g k1).x)).fd),ν ((As ((g k1).x)).off),ν ((As ((g k1).x)).n),σ ((As ((g k1).x)).data)]]) rfl (Sn (cf:=gfx49) (A:=B119) (F:=(AN (BR F ccx51) g k1)) (n:=(30+k1)) (x:=(As ((g k1).x))) (G:=(doF (AN (BR F ccx51) g k1) ((g k1).cl) (As ((g k1).x))).1) (r:=(doF (AN (BR F ccx51) g k1) ((g k1).cl) (As ((g k1).x))).2) s8 hGA2116 ω (Nat.le_trans (JW _) ω) (Nat.le_trans (JX _) ω) (Nat.le_trans (Mi _) ω) (hw1 k1 ω).2.2.2.1 rfl) fun _ v6 w8 r6 h53=>?_
  obtain ⟨Ax178,sax179,scx180,rfl,s9,hA185⟩:=r6
  refine hK17 _ _ (s9.pk [4,5,6,7,8,9,10,11] rfl) fun hq3=>h53.sk [9,8,7,6,5,4,0,1] rfl fun h54=>?_
  refine wpAnyH_done κ ?_ _
  refine hK15 _ _ ?_
  refine wp_region_lit<|mv h54 rfl fun _ h55=>bv h55 (z:=ν ((k1+1:Nat):Int)) rfl (Dx _ _ _ ω ω ω) fun _ h56=>h56.sk [46,45,8,7,6,5,4,0,1] rfl fun h57=>mv h57 rfl fun _ h58=>h58.sk [9,8,7,6,5,4,0,1] rfl fun h59=>wpList_nil ?_
  exact hK12 (k1+1) Ax178 _ _ ⟨h59.subs rfl,(s9.pk [1,2,3,4,5,6,7,8,9,10,11] rfl),hA185,ω⟩ ω
 ·skip
  have hp2:(¬ ((k1:Int)<(n1:Int)))∨(¬ ((k1:Int)<10)):=((Ix hc1).imp (fun q=>(dF q)) (fun q=>(dF q)))
  refine wcF h39 rfl hc1<|h39.sk [9,8,7,6,5,4,0,1] rfl fun h60=>wp_exit ?_
  refine hK10 _ _ ?_
  refine sq fun _ hK18=>sqr fun _ hK19=>mv h60 rfl fun _ h61=>wpList_nil<|hK19 _ _<|wp_block ?_
  have s10:Sep w6 [Ah cf 65 [π (Ax9.ad 0),.map (some ob)],Av (AN F g 0) Ax9,AM KO ob Ax9.C (opG (AN F g 0) Ax9),Ah df 51 [.slice ((⟨nax10,ncx11,eax12,ecx13,oax14,ocx15⟩:DocA).na) ((AN F g 0).N.length) ((⟨nax10,ncx11,eax12,ecx13,oax14,ocx15⟩:DocA).nc),.slice ((⟨nax10,ncx11,eax12,ecx13,oax14,ocx15⟩:DocA).ea) ((AN F g 0).E.length) ((⟨nax10,ncx11,eax12,ecx13,oax14,ocx15⟩:DocA).ec),.slice ((⟨nax10,ncx11,eax12,ecx13,oax14,ocx15⟩:DocA).oa) ((AN F g 0).O.length) ((⟨nax10,ncx11,eax12,ecx13,oax14,ocx15⟩:DocA).oc)],Ak 0 88 3 ((⟨nax10,ncx11,eax12,ecx13,oax14,ocx15⟩:DocA).na) ((AN F g 0).N).length ((⟨nax10,ncx11,eax12,ecx13,oax14,ocx15⟩:DocA).nc) (((AN F g 0).N).flatMap CZ),Ak 0 114 3 ((⟨nax10,ncx11,eax12,ecx13,oax14,ocx15⟩:DocA).ea) ((AN F g 0).E).length ((⟨nax10,ncx11,eax12,ecx13,oax14,ocx15⟩:DocA).ec) (((AN F g 0).E).flatMap CM),Ak 0 93 3 ((⟨nax10,ncx11,eax12,ecx13,oax14,ocx15⟩:DocA).oa) ((AN F g 0).O).length ((⟨nax10,ncx11,eax12,ecx13,oax14,ocx15⟩:DocA).oc) (((AN F g 0).O).flatMap CI),Ah gfx49 65 [π (B119.ad 0),.map (some gbx50)],Av (AN (BR F ccx51) g k1) B119,AM KO gbx50 B119.C (opG (AN (BR F ccx51) g k1) B119),Ip W W.heap.size]:=(s6.pk [3,4,5,6,7,8,9,0,1,2,10] rfl)
  refine Ee (fun (j:Nat) (A:AdM) (D:DocA) a' w'=>Kn 101 [(10,ν (j:Int)),(8,π gfx49),(7,.bool true),(6,π df),(5,π cf),(4,.bool false),(0,.slice a0 n0 c0),(1,.slice a1 n1 c1)] a'∧Sep w' [Ah cf 65 [π (A.ad 0),.map (some ob)],Av (AN F g j) A,AM KO ob A.C (opG (AN F g j) A),Ah df 51 [.slice D.na ((AN F g j).N.length) D.nc,.slice D.ea ((AN F g j).E.length) D.ec,.slice D.oa ((AN F g j).O.length) D.oc],Ak 0 88 3 D.na ((AN F g j).N).length D.nc (((AN F g j).N).flatMap CZ),Ak 0 114 3 D.ea ((AN F g j).E).length D.ec (((AN F g j).E).flatMap CM),Ak 0 93 3 D.oa ((AN F g j).O).length D.oc (((AN F g j).O).flatMap CI),Ah gfx49 65 [π (B119.ad 0),.map (some gbx50)],Av (AN (BR F ccx51) g k1) B119,AM KO gbx50 B119.C (opG (AN (BR F ccx51) g k1) B119),Ip W W.heap.size]∧(FsA (AN F g j) A (30+j))∧(j≤10∧j≤n1)) (fun (j:Nat) (A:AdM) (D:DocA)=>10-j) 0 Ax9 ⟨nax10,ncx11,eax12,ecx13,oax14,ocx15⟩ ⟨h61.subs rfl,s10,hA20,ω⟩ ?_
  rintro j211 A212 D213 a3 w9 ⟨h62,s11,hFA2209,hj210⟩ K2 hK20
  have hf2:=hFA2209
  refine sq fun _ hK21=>sqr fun _ hK22=>mvs 2 h62 rfl fun _ h63=>sv1 h63 rfl (v:=ν (n1:Int)) (CR h63 rfl rfl υ22) fun _ h64=>bv h64 (z:=.bool (decide ((j211:Int)<(n1:Int)))) rfl (cLt _ _ _ _ rfl) fun _ h65=>mv h65 rfl fun _ h66=>sg h66 (wT h66 rfl rfl rfl) rfl rfl rfl (v:=ν (j211:Int)) (fun hC3=>by have hq:=(dT hC3);exact Ap h66 rfl rfl _) fun _ h67=>sg h67 (wT h67 rfl rfl rfl) rfl rfl rfl (v:=.bool (decide ((j211:Int)<10))) (fun hC4=>by have hq:=(dT hC4);exact BG h67 rfl (opg rfl hC4) rfl (cLt _ _ _ _ rfl) _) fun _ h68=>sv1 h68 rfl (v:=.bool ((decide ((j211:Int)<(n1:Int)))&&(decide ((j211:Int)<10)))) (DJ h68 rfl (E:=(decide ((j211:Int)<(n1:Int)))) (F:=(decide ((j211:Int)<10))) rfl rfl rfl (fun e=>if_pos (by rw [e];try rfl))) fun _ h69=>h69.sn [67,10,8,7,6,5,4,0,1] rfl fun h70=>hK22 _ _ ?_
  rcases bC ((decide ((j211:Int)<(n1:Int)))&&(decide ((j211:Int)<10))) with hc2 | hc2
  ·skip
   have hp3:((j211:Int)<(n1:Int))∧((j211:Int)<10):=(And.intro (dT (AA hc2).1) (dT (AA hc2).2))
   refine wcT h70 rfl hc2<|h70.sk [10,8,7,6,5,4,0,1] rfl fun h71=>wp_skip<|hK21 _ _<|sq fun _ hK23=>wp_block ?_
   refine sqr fun _ hK24=>mvs 2 h71 rfl fun _ h72=>sv1 h72 rfl (v:=.pointer (some ⟨bY,oY+j211*10,none⟩)) (Aw h72 rfl rfl rfl (fun w=>ixO υ22 κ (sz:=10) (hY ω).1 (j:=j211) rfl ω rfl w)) fun _ h73=>sv1 h73 rfl (v:=.pointer (some ⟨bY,oY+j211*10+1,none⟩)) (rfa h73 rfl rfl (fun w=>DI bY (oY+j211*10) w)) fun _ h74=>sw1 h74 rfl (v:=.agg #[ν ((g j211).x.kind),σ ((g j211).x.p1),σ ((g j211).x.p2),ν ((g j211).x.fl),ν ((g j211).x.fd),ν ((g j211).x.off),ν ((g j211).x.n),σ ((g j211).x.data)]) (rld h74 rfl rfl (SJ (sz:=10) (n:=n1) (f:=(fun i=>Iy (g i))) υ30 rfl κ (hY ω).2 (Nat.le_refl _) (s11.get 10 rfl:Below _ _ _∧_) (j:=j211) (i:=1) ω rfl (cs:=[ν ((g j211).x.kind),σ ((g j211).x.p1),σ ((g j211).x.p2),ν ((g j211).x.fl),ν ((g j211).x.fd),ν ((g j211).x.off),ν ((g j211).x.n),σ ((g j211).x.data)]) rfl rfl)) fun _ h75=>cl h75 rfl DW (Qi s11 ((g j211).x)) fun _ v7 w10 r7 h76=>?_
   obtain ⟨rfl,s12⟩:=r7
   refine so (wn rfl) fun _ hK25=>BB h76 rfl rfl rfl rfl (z:=[ν 0,σ [],σ [],ν 0,ν 0,ν 0,ν 0,σ []]) (fun _=>rfl) s12 fun _ g1 w11 h77 s13 _ _=>hK25 _ _ ?_
   refine stA h77 s13 0 rfl rfl rfl κ rfl rfl rfl rfl fun _ w12 h78 s14 _=>h78.sn [11,10,8,7,6,5,4,0,1] rfl fun h79=>hK24 _ _<|sq fun _ hK26=>?_
   have s15:=s14.drew
   refine wp_region_held_drew (S:=fun w'=>Sep w' [Ah g1 30 [ν ((As ((g j211).x)).kind),σ ((As ((g j211).x)).p1),σ ((As ((g j211).x)).p2),ν ((As ((g j211).x)).fl),ν ((As ((g j211).x)).fd),ν ((As ((g j211).x)).off),ν ((As ((g j211).x)).n),σ ((As ((g j211).x)).data)],Ah gfx49 65 [π (B119.ad 0),.map (some gbx50)],Av (AN (BR F ccx51) g k1) B119,AM KO gbx50 B119.C (opG (AN (BR F ccx51) g k1) B119),Ip W W.heap.size]) κ (s15.pk [0,8,9,10,11] rfl) (fun hq4=>?_)
   refine tv1 hq4 h79 0 rfl rfl (v:=π cf) (fun w1 _=>(Ap h79 rfl rfl) w1) fun _ h80=>?_
   refine tv1 hq4 h80 1 rfl rfl (v:=.slice a1 n1 c1) (fun w1 _=>(Ap h80 rfl rfl) w1) fun _ h81=>?_
   refine tv1 hq4 h81 2 rfl rfl (v:=ν (j211:Int)) (fun w1 _=>(Ap h81 rfl rfl) w1) fun _ h82=>?_
   refine tv1 hq4 h82 3 rfl rfl (v:=.pointer (some ⟨bY,oY+j211*10,none⟩)) (fun w1 _=>(Aw h82 rfl rfl rfl (fun w=>ixO υ22 κ (sz:=10) (hY ω).1 (j:=j211) rfl ω rfl w)) w1) fun _ h83=>?_
   refine tv1 hq4 h83 4 rfl rfl (v:=.pointer (some ⟨bY,oY+j211*10+0,none⟩)) (fun w1 _=>(rfa h83 rfl rfl (fun w=>BS bY (oY+j211*10) w)) w1) fun _ h84=>?_
   refine tv1 hq4 h84 5 rfl rfl (v:=ν ((g j211).cl)) (fun w1 hSw=>(rld h84 rfl rfl (My (sz:=10) (n:=n1) (f:=(fun i=>Iy (g i))) υ3 rfl (hY ω).2 (Nat.le_refl _) (hSw.get 4 rfl:Below _ _ _∧_) (j:=j211) (i:=0) ω rfl rfl))) fun _ h85=>?_
   refine tv1 hq4 h85 6 rfl rfl (v:=.agg #[ν ((As ((g j211).x)).kind),σ ((As ((g j211).x)).p1),σ ((As ((g j211).x)).p2),ν ((As ((g j211).x)).fl),ν ((As ((g j211).x)).fd),ν ((As ((g j211).x)).off),ν ((As ((g j211).x)).n),σ ((As ((g j211).x)).data)]) (fun w1 hSw=>(rld h85 rfl rfl (ldA υ30 rfl (n:=8) κ (hSw.get 0 rfl:Blk _ _ _ _) rfl rfl))) fun _ h86=>?_
   refine tv1 hq4 h86 8 rfl rfl (v:=π df) (fun w1 _=>(Ap h86 rfl rfl) w1) fun _ h87=>?_
   refine tv1 hq4 h87 9 rfl rfl (v:=.slice a1 n1 c1) (fun w1 _=>(Ap h87 rfl rfl) w1) fun _ h88=>?_
   refine tv1 hq4 h88 10 rfl rfl (v:=ν (j211:Int)) (fun w1 _=>(Ap h88 rfl rfl) w1) fun _ h89=>?_
   refine tv1 hq4 h89 11 rfl rfl (v:=.pointer (some ⟨bY,oY+j211*10,none⟩)) (fun w1 _=>(Aw h89 rfl rfl rfl (fun w=>ixO υ22 κ (sz:=10) (hY ω).1 (j:=j211) rfl ω rfl w)) w1) fun _ h90=>?_
   refine tv1 hq4 h90 12 rfl rfl (v:=.pointer (some ⟨bY,oY+j211*10+0,none⟩)) (fun w1 _=>(rfa h90 rfl rfl (fun w=>BS bY (oY+j211*10) w)) w1) fun _ h91=>?_
   refine tv1 hq4 h91 13 rfl rfl (v:=ν ((g j211).cl)) (fun w1 hSw=>(rld h91 rfl rfl (My (sz:=10) (n:=n1) (f:=(fun i=>Iy (g i))) υ3 rfl (hY ω).2 (Nat.le_refl _) (hSw.get 4 rfl:Below _ _ _∧_) (j:=j211) (i:=0) ω rfl rfl))) fun _ h92=>?_
   refine tv1 hq4 h92 14 rfl rfl (v:=.agg #[ν ((As ((g j211).x)).kind),σ ((As ((g j211).x)).p1),σ ((As ((g j211).x)).p2),ν ((As ((g j211).x)).fl),ν ((As ((g j211).x)).fd),ν ((As ((g j211).x)).off),ν ((As ((g j211).x)).n),σ ((As ((g j211).x)).data)]) (fun w1 hSw=>(rld h92 rfl rfl (ldA υ30 rfl (n:=8) κ (hSw.get 0 rfl:Blk _ _ _ _) rfl rfl))) fun _ h93=>?_
   refine to_ 7 rfl (wn rfl) κ fun _ hK27=>CS h93 rfl rfl rfl (xs:=[.tmp 76,.tmp 81,.tmp 82]) rfl Ce rfl (vs:=[π cf,ν ((g j211).cl),.agg #[ν ((As ((g j211).x)).kind),σ ((As ((g j211).x)).p1),σ ((As ((g j211).x)).p2),ν ((As ((g j211).x)).fl),ν ((As ((g j211).x)).fd),ν ((As ((g j211).x)).off),ν ((As ((g j211).x)).n),σ ((As ((g j211).x)).data)]]) rfl (args:=#[π cf,ν ((g j211).cl),.agg #[ν ((As ((g j211).x)).kind),σ ((As ((g j211).x)).p1),σ ((As ((g j211).x)).p2),ν ((As ((g j211).x)).fl),ν ((As ((g j211).x)).fd),ν ((As ((g j211).x)).off),ν ((As ((g j211).x)).n),σ ((As ((g j211).x)).data)]]) rfl (Sn (cf:=cf) (A:=A212) (F:=(AN F g j211)) (n:=(30+j211)) (x:=(As ((g j211).x))) (G:=(doF (AN F g j211) ((g j211).cl) (As ((g j211).x))).1) (r:=(doF (AN F g j211) ((g j211).cl) (As ((g j211).x))).2) (s15.pk [1,2,3,0,4,5,6,7,8,9,10,11] rfl) hFA2209 ω (Nat.le_trans (JW _) ω) (Nat.le_trans (JX _) ω) (Nat.le_trans (Mi _) ω) (hw1 j211 ω).2.2.2.1 rfl) fun _ v8 w13 r8 h94=>?_
   obtain ⟨Ax304,sax305,scx306,rfl,s16,hA311⟩:=r8
   refine hK27 _ _ (s16.pk [4,9,10,11,12] rfl) fun hq5=>?_
   refine to_ 15 rfl (wn rfl) κ fun _ hK28=>CS h94 rfl rfl rfl (xs:=[.tmp 84,.tmp 89,.tmp 90]) rfl EE rfl (vs:=[π df,ν ((g j211).cl),.agg #[ν ((As ((g j211).x)).kind),σ ((As ((g j211).x)).p1),σ ((As ((g j211).x)).p2),ν ((As ((g j211).x)).fl),ν ((As ((g j211).x)).fd),ν ((As ((g j211).x)).off),ν ((As ((g j211).x)).n),σ ((As ((g j211).x)).data)]]) rfl (args:=#[π df,ν ((g j211).cl),.agg #[ν ((As ((g j211).x)).kind),σ ((As ((g j211).x)).p1),σ ((As ((g j211).x)).p2),ν ((As ((g j211).x)).fl),ν ((As ((g j211).x)).fd),ν ((As ((g j211).x)).off),ν ((As ((g j211).x)).n),σ ((As ((g j211).x)).data)]]) rfl (Of (F:=(AN F g j211)) (x:=(As ((g j211).x))) (s16.pk [5,6,7,8,0,1,2,3,4,9,10,11,12] rfl) (hf2.sz.ss ω) hf2.ok (Nat.le_trans (JW _) ω) (Nat.le_trans (JX _) ω) (Nat.le_trans (Mi _) ω)) fun _ v9 w14 r9 h95=>?_
   obtain ⟨tax315,tcx316,nax317,ncx318,eax319,ecx320,oax321,ocx322,rfl,s17⟩:=r9
   refine hK28 _ _ (s17.pk [9,10,11,12,13] rfl) fun hq6=>?_
   refine to_ 16 rfl (wn rfl) κ fun _ hK29=>CS h95 rfl rfl rfl (xs:=[.tmp 83,.tmp 91]) rfl DU rfl (vs:=[.agg #[ν ((doF (AN F g j211) ((g j211).cl) (As ((g j211).x))).2.e),ν ((doF (AN F g j211) ((g j211).cl) (As ((g j211).x))).2.fd),σ ((doF (AN F g j211) ((g j211).cl) (As ((g j211).x))).2.data),.slice sax305 ((doF (AN F g j211) ((g j211).cl) (As ((g j211).x))).2.names.length) scx306,ν ((doF (AN F g j211) ((g j211).cl) (As ((g j211).x))).2.kind),ν ((doF (AN F g j211) ((g j211).cl) (As ((g j211).x))).2.links),ν ((doF (AN F g j211) ((g j211).cl) (As ((g j211).x))).2.size)],.agg #[ν ((doF (AN F g j211) ((g j211).cl) (As ((g j211).x))).2.e),ν ((doF (AN F g j211) ((g j211).cl) (As ((g j211).x))).2.fd),σ ((doF (AN F g j211) ((g j211).cl) (As ((g j211).x))).2.data),.slice tax315 ((doF (AN F g j211) ((g j211).cl) (As ((g j211).x))).2.names.length) tcx316,ν ((doF (AN F g j211) ((g j211).cl) (As ((g j211).x))).2.kind),ν ((doF (AN F g j211) ((g j211).cl) (As ((g j211).x))).2.links),ν ((doF (AN F g j211) ((g j211).cl) (As ((g j211).x))).2.size)]]) rfl (args:=#[.agg #[ν ((doF (AN F g j211) ((g j211).cl) (As ((g j211).x))).2.e),ν ((doF (AN F g j211) ((g j211).cl) (As ((g j211).x))).2.fd),σ ((doF (AN F g j211) ((g j211).cl) (As ((g j211).x))).2.data),.slice sax305 ((doF (AN F g j211) ((g j211).cl) (As ((g j211).x))).2.names.length) scx306,ν ((doF (AN F g j211) ((g j211).cl) (As ((g j211).x))).2.kind),ν ((doF (AN F g j211) ((g j211).cl) (As ((g j211).x))).2.links),ν ((doF (AN F g j211) ((g j211).cl) (As ((g j211).x))).2.size)],.agg #[ν ((doF (AN F g j211) ((g j211).cl) (As ((g j211).x))).2.e),ν ((doF (AN F g j211) ((g j211).cl) (As ((g j211).x))).2.fd),σ ((doF (AN F g j211) ((g j211).cl) (As ((g j211).x))).2.data),.slice tax315 ((doF (AN F g j211) ((g j211).cl) (As ((g j211).x))).2.names.length) tcx316,ν ((doF (AN F g j211) ((g j211).cl) (As ((g j211).x))).2.kind),ν ((doF (AN F g j211) ((g j211).cl) (As ((g j211).x))).2.links),ν ((doF (AN F g j211) ((g j211).cl) (As ((g j211).x))).2.size)]]) rfl ((by have z:=JB (r:=(doF (AN F g j211) ((g j211).cl) (As ((g j211).x))).2) (s:=(doF (AN F g j211) ((g j211).cl) (As ((g j211).x))).2) (s17.pk [5,0,1,2,3,4,6,7,8,9,10,11,12,13] rfl) (Nat.le_trans (ID _ _) (Nat.le_trans hf2.sz.2.1 ω)) (Nat.le_trans (ID _ _) (Nat.le_trans hf2.sz.2.1 ω));rw [KH] at z;exact z)) fun _ v10 w15 r10 h96=>?_
   obtain ⟨rfl,s18⟩:=r10
   refine hK29 _ _ (s18.pk [9,10,11,12,13] rfl) fun hq7=>?_
   refine tv1 hq7 h96 17 rfl rfl (v:=.bool true) (fun w1 _=>(BJ h96 rfl rfl) w1) fun _ h97=>?_
   refine h97.sk [12,11,10,8,7,6,5,4,0,1] rfl fun h98=>?_
   refine wpAnyH_done κ ?_ _
   refine hK26 _ _ ?_
   refine sqr fun _ hK30=>mvs 2 h98 rfl fun _ h99=>h99.sn [94,12,11,10,8,7,6,5,4,0,1] rfl fun h100=>hK30 _ _<|wcF h100 rfl rfl<|h100.sk [12,11,10,8,7,6,5,4,0,1] rfl fun h101=>wp_skip<|hK23 _ _<|wp_region_lit<|mv h101 rfl fun _ h102=>bv h102 (z:=ν ((j211+1:Nat):Int)) rfl (Dx _ _ _ ω ω ω) fun _ h103=>?_
   refine h103.sk [69,68,12,11,8,7,6,5,4,0,1] rfl fun h104=>mv h104 rfl fun _ h105=>h105.sk [10,12,11,8,7,6,5,4,0,1] rfl fun h106=>wpList_nil ?_
   exact hK20 (j211+1) Ax304 (⟨nax317,ncx318,eax319,ecx320,oax321,ocx322⟩:DocA) _ _ ⟨h106.subs rfl,(s18.pk [6,7,8,2,3,4,5,10,11,12,13] rfl),hA311,ω⟩ ω
  ·skip
   have hp4:(¬ ((j211:Int)<(n1:Int)))∨(¬ ((j211:Int)<10)):=((Ix hc2).imp (fun q=>(dF q)) (fun q=>(dF q)))
   refine wcF h70 rfl hc2<|h70.sk [10,8,7,6,5,4,0,1] rfl fun h107=>wp_exit ?_
   refine hK18 _ _ ?_
   refine sq fun _ hK31=>?_
   have hkk:j211=k1:=ω
   have q3:Ec (Cx (AN F g j211)) (Cx (AN (BR F ccx51) g k1))=true:=by rw [hkk];obtain ⟨S2,hI2⟩:=Jt g hI58 hF0.ok hG0.ok k1;exact ER.2 (hI2.rows (FW g hF0.ok _).toFsC (FW g hG0.ok _).toFsC)
   refine wp_region_lit<|mvs 2 h107 rfl fun _ h108=>cl h108 rfl DL (NN (s11.pk [0,1,2,7,8,9,3,4,5,6,10] rfl) hFA2209.ok.toFsC (hFA2209.sz.sm ω) hGA2116.ok.toFsC (hGA2116.sz.sm ω)) fun _ v11 w16 r11 h109=>?_
   obtain ⟨rfl,s19⟩:=r11
   refine mv h109 rfl fun _ h110=>so ((wT h110 rfl rfl rfl).trans q3) fun _ hK32=>CS h110 rfl rfl rfl (xs:=[]) rfl GK rfl (vs:=[]) rfl (args:=#[]) rfl (RU s19) fun _ v12 w17 r12 h111=>hK32 _ _ ?_
   obtain ⟨rfl,s20⟩:=r12
   refine sv1 h111 rfl (v:=.bool true) (BT h111 rfl (E:=(Ec (Cx (AN F g j211)) (Cx (AN (BR F ccx51) g k1)))) (b:=true) rfl q3 rfl) fun _ h112=>h112.sk [100,99,98,97,96,95,10,8,7,6,5,0,1] rfl fun h113=>mv h113 rfl fun _ h114=>h114.sn [4,10,8,7,6,5,0,1] rfl fun h115=>hK31 _ _<|wp_ret ?_
   try simp only [Exit.then,Exit.inBlock]
   refine Bn (v:=.bool true) (Cf h115 rfl rfl) h115.defs ?_
   exact ⟨rfl,(s20.get 10 rfl:Below _ _ _∧_).1⟩
end
end Go.Proofs.YtcanemamnmmbcaaGreatDoor
