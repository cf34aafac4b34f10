/- Parts of the proof. -/
import Derived.RangeFuncFrom
import Derived.RangeFuncGives
import Derived.Sort.MapsRangeIn
import Derived.OwnWalkIn
import Derived.TacticsInMore
import Derived.LoopNIn
import Derived.LoopIn
import Derived.Test.YtcanemamnmmbcaaGreatDoorQak
namespace Go.Proofs.YtcanemamnmmbcaaGreatDoor
open Go.RowKit
set_option linter.unusedSimpArgs false
set_option linter.unusedVariables false
set_option linter.unusedSectionVars false
set_option maxRecDepth 100000
set_option maxHeartbeats 8000000
section
structure NdO (F:FsM) (A:AdM) (T:List Nat) (w:World):Prop where
  nd:∀ k,k<F.N.length→Blk w (A.ad k) 97 (ndV F A k)
  mp:∀ k,k<F.N.length→F.dir k=true→¬ k∈T→MapG KN w (A.mb k) A.B (fun s=>elA A (Ai F.E k s))
  inj:∀ j k,j<F.N.length→k<F.N.length→A.ad j=A.ad k→j=k
  minj:∀ j k,j<F.N.length→k<F.N.length→F.dir j=true→F.dir k=true→A.mb j=A.mb k→j=k
def nodO (F:FsM) (A:AdM) (T:List Nat):Ch where
  F b:=∃ k,k<F.N.length∧(b=A.ad k∨(F.dir k=true∧¬ k∈T∧b=A.mb k))
  P w:=NdO F A T w
  keep h t:=⟨fun k hk=>t.blk (h.nd k hk) (fun q=>q ⟨k,hk,.inl rfl⟩),fun k hk hd hT=>(h.mp k hk hd hT).turns t (fun q=>q ⟨k,hk,.inr ⟨hd,hT,rfl⟩⟩),h.inj,h.minj⟩
  lt {w} h b:=by
    rintro ⟨k,hk,e | ⟨hd,hT,e⟩⟩
    · rw [e];exact (h.nd k hk).lt
    · rw [e];exact (h.mp k hk hd hT).lt
section
variable {F:FsM} {A:AdM} {w:World} {R:List Ch} {T:List Nat} {k:Nat}
theorem Sep.nodO (h:Sep w (Av F A::R)):Sep w (nodO F A []::R):=by
  have hN:NdP F.nE A.nC w:=h.get 0 rfl
  refine Sep.swap (A:=[Av F A]) (B:=[Go.Proofs.YtcanemamnmmbcaaGreatDoor.nodO F A []]) h (Sep.cons (c:=Go.Proofs.YtcanemamnmmbcaaGreatDoor.nodO F A []) (show NdO F A [] w from ⟨hN.nd,fun k hk hd _=>hN.mp k hk hd,hN.inj,hN.minj⟩) (Sep.nil w) (fun i d e=>by simp at e)) ?_
  intro i c hi b hb
  cases i with
  | succ i=>simp at hi
  | zero=>
    cases hi
    obtain ⟨k,hk,e | ⟨hd,_,e⟩⟩:=hb
    · exact ⟨0,_,rfl,k,hk,.inl e⟩
    · exact ⟨0,_,rfl,k,hk,.inr ⟨hd,e⟩⟩
theorem Sep.nodO_back (h:Sep w (Go.Proofs.YtcanemamnmmbcaaGreatDoor.nodO F A []::R)):Sep w (Av F A::R):=by
  have hN:NdO F A [] w:=h.get 0 rfl
  have hP:NdP F.nE A.nC w:=⟨hN.nd,fun k hk hd=>hN.mp k hk hd (by simp),hN.inj,hN.minj⟩
  refine Sep.swap (A:=[Go.Proofs.YtcanemamnmmbcaaGreatDoor.nodO F A []]) (B:=[Av F A]) h (Sep.cons (c:=Av F A) hP (Sep.nil w) (fun i d e=>by simp at e)) ?_
  intro i c hi b hb
  cases i with
  | succ i=>simp at hi
  | zero=>
    cases hi
    obtain ⟨k,hk,e | ⟨hd,e⟩⟩:=hb
    · exact ⟨0,_,rfl,k,hk,.inl e⟩
    · exact ⟨0,_,rfl,k,hk,.inr ⟨hd,by simp,e⟩⟩
def mpC (F:FsM) (A:AdM) (k:Nat):Ch:=AM KN (A.mb k) A.B (fun s=>elA A (Ai F.E k s))
theorem Sep.cutO (hk:k<F.N.length) (hd:F.dir k=true) (hT:¬ k∈T) (h:Sep w (Go.Proofs.YtcanemamnmmbcaaGreatDoor.nodO F A T::R)):Sep w (mpC F A k::Go.Proofs.YtcanemamnmmbcaaGreatDoor.nodO F A (k::T)::R):=by
  have hN:NdO F A T w:=h.get 0 rfl
  have h2:NdO F A (k::T) w:=⟨hN.nd,fun j hj hdj hq=>hN.mp j hj hdj (fun z=>hq (List.mem_cons_of_mem _ z)),hN.inj,hN.minj⟩
  have hap:∀ b,(mpC F A k).F b→(Go.Proofs.YtcanemamnmmbcaaGreatDoor.nodO F A (k::T)).F b→False:=by
    rintro b e ⟨j,hj,q | ⟨hdj,hq,q⟩⟩
    · exact LL (hN.nd j hj) (hN.mp k hk hd hT) (q.symm.trans e)
    · exact hq (by rw [hN.minj j k hj hk hdj hd (q.symm.trans e)];exact List.mem_cons_self)
  refine Sep.swap (A:=[Go.Proofs.YtcanemamnmmbcaaGreatDoor.nodO F A T]) (B:=[mpC F A k,Go.Proofs.YtcanemamnmmbcaaGreatDoor.nodO F A (k::T)]) h (Sep.cons (c:=mpC F A k) (hN.mp k hk hd hT) (Sep.cons (c:=Go.Proofs.YtcanemamnmmbcaaGreatDoor.nodO F A (k::T)) h2 (Sep.nil w) (fun i d e=>by simp at e)) (fun i d e b h3 h4=>?_)) ?_
  · match i,e with
    | 0,e=>cases e;exact hap b h3 h4
  · intro i c hi b hb
    match i,hi with
    | 0,hi=>cases hi;exact ⟨0,_,rfl,k,hk,.inr ⟨hd,hT,hb⟩⟩
    | 1,hi=>
      cases hi
      obtain ⟨j,hj,q | ⟨hdj,hq,q⟩⟩:=hb
      · exact ⟨0,_,rfl,j,hj,.inl q⟩
      · exact ⟨0,_,rfl,j,hj,.inr ⟨hdj,fun z=>hq (List.mem_cons_of_mem _ z),q⟩⟩
theorem Sep.mendO (hk:k<F.N.length) (hd:F.dir k=true) (hT:¬ k∈T) (h:Sep w (mpC F A k::Go.Proofs.YtcanemamnmmbcaaGreatDoor.nodO F A (k::T)::R)):Sep w (Go.Proofs.YtcanemamnmmbcaaGreatDoor.nodO F A T::R):=by
  have hm:MapG KN w (A.mb k) A.B (fun s=>elA A (Ai F.E k s)):=h.get 0 rfl
  have hN:NdO F A (k::T) w:=h.get 1 rfl
  have h2:NdO F A T w:=⟨hN.nd,fun j hj hdj hq=>by
    by_cases e:j=k
    · subst e;exact hm
    · exact hN.mp j hj hdj (fun z=>by rcases List.mem_cons.1 z with z | z;exact e z;exact hq z),hN.inj,hN.minj⟩
  refine Sep.swap (A:=[mpC F A k,Go.Proofs.YtcanemamnmmbcaaGreatDoor.nodO F A (k::T)]) (B:=[Go.Proofs.YtcanemamnmmbcaaGreatDoor.nodO F A T]) h (Sep.cons (c:=Go.Proofs.YtcanemamnmmbcaaGreatDoor.nodO F A T) h2 (Sep.nil w) (fun i d e=>by simp at e)) ?_
  intro i c hi b hb
  cases i with
  | succ i=>simp at hi
  | zero=>
    cases hi
    obtain ⟨j,hj,q | ⟨hdj,hq,q⟩⟩:=hb
    · exact ⟨1,_,rfl,j,hj,.inl q⟩
    · by_cases e:j=k
      · subst e;exact ⟨0,_,rfl,q⟩
      · exact ⟨1,_,rfl,j,hj,.inr ⟨hdj,(fun z=>by rcases List.mem_cons.1 z with z | z;exact e z;exact hq z),q⟩⟩
theorem NdO.tells (h:NdO F A T w) {c:Cp} (hc:CpOk F A c) (hk:k<F.N.length):JQ w 62 (c.L A) (A.ad k):=by
  intro p hp
  obtain ⟨q,hq,rfl⟩:=List.mem_map.1 hp
  have hq:=List.mem_range.1 hq
  have hl:=hc.lt _ (c.og_mem hq)
  obtain ⟨i,hi,hz⟩:=Kg
  have key:∀ d,(Op.equalIn (d+1) 62 (π (A.ad k)) (π (A.ad (c.og q)))).run Tryz.prog w=.ok (decide (A.ad k=A.ad (c.og q))) w:=fun d=>by
    by_cases e:k=c.og q
    · rw [← e]
      simp [Op.equalIn,run_underlying υ62,sizeOf,typeInfo,hi,hz,run_sameAddr_same]
    · have e2:¬ A.ad k=A.ad (c.og q):=fun z=>e (h.inj _ _ hk hl z)
      have hne:(⟨A.ad k,0,none⟩:Addr)≠⟨A.ad (c.og q),0,none⟩:=fun z=>e2 (by injection z)
      simp [Op.equalIn,run_underlying υ62,sizeOf,typeInfo,hi,hz,run_sameAddr_other w hne (h.nd k hk) (h.nd _ hl),e2]
  exact key 9999
end
end
section
section
variable {F:FsM} {A:AdM} {c:Cp} {w:World} {R:List Ch} {k g b:Nat} {i:Int}
def cpV (F:FsM) (A:AdM) (k:Nat) (m:Option Nat):List Value:=[ν (AP (F.dir k)),ν (AR F A k),.string (Ad (F.at k).data),.map m]
theorem Cp.new_at {p:Nat} (hp:p<c.K.length):((c.new k g b i).fs F).at p=(c.fs F).at p:=by
  rw [Cp.at F _ (by rw [c.new_len];omega),Cp.at F c hp,c.new_og _ _ _ _ hp]
theorem Cp.new_at':((c.new k g b i).fs F).at c.K.length=F.at k:=by
  rw [Cp.at F _ (by rw [c.new_len];omega),c.new_og']
theorem Cp.new_ndV {p:Nat} (hp:p<c.K.length):ndV ((c.new k g b i).fs F).nE (c.new k g b i).A.nC p=ndV (c.fs F).nE c.A.nC p:=by
  have e1:((c.new k g b i).fs F).nE.at p=(c.fs F).nE.at p:=Cp.new_at hp
  have e2:((c.new k g b i).fs F).nE.dir p=(c.fs F).nE.dir p:=congrArg NodeM.dir e1
  have e3:(c.new k g b i).A.nC.ld p=c.A.nC.ld p:=if_neg ω
  have e4:(c.new k g b i).A.nC.mb p=c.A.nC.mb p:=if_neg ω
  unfold ndV AR mpM
  rw [e1,e2,e3,e4]
theorem Cp.new_ndV' (hi:F.dir k=true→i=A.ld k):ndV ((c.new k g b i).fs F).nE (c.new k g b i).A.nC c.K.length=cpV F A k (if F.dir k=true then some b else none):=by
  have e1:((c.new k g b i).fs F).nE.at c.K.length=F.at k:=Cp.new_at'
  have e2:((c.new k g b i).fs F).nE.dir c.K.length=F.dir k:=congrArg NodeM.dir e1
  have e3:(c.new k g b i).A.nC.ld c.K.length=i:=if_pos rfl
  have e4:(c.new k g b i).A.nC.mb c.K.length=b:=if_pos rfl
  unfold ndV AR mpM cpV
  rw [e1,e2,e3,e4]
  cases hd:F.dir k with
  | false=>simp [AR,hd]
  | true=>simp [AR,hd,hi hd]
theorem NdP.cnew (h:NdP (c.fs F).nE c.A.nC w) (hc:CpOk F A c) (hi:F.dir k=true→i=A.ld k) (hb:Blk w g 97 (cpV F A k (if F.dir k=true then some b else none))) (hm:F.dir k=true→MapG KN w b 0 (fun _=>none))
    (ha:∀ p,p<c.K.length→g≠c.A.ad p) (hma:F.dir k=true→∀ p,p<c.K.length→(c.fs F).dir p=true→b≠c.A.mb p):NdP ((c.new k g b i).fs F).nE (c.new k g b i).A.nC w:=by
  have hlen:((c.new k g b i).fs F).nE.N.length=c.K.length+1:=(Cp.len F _).trans (c.new_len ..)
  have hlen0:(c.fs F).nE.N.length=c.K.length:=Cp.len F c
  have hold:∀ p,p<c.K.length→(c.new k g b i).A.nC.ad p=c.A.ad p:=fun p hp=>if_neg ω
  have hnew:(c.new k g b i).A.nC.ad c.K.length=g:=if_pos rfl
  have mold:∀ p,p<c.K.length→(c.new k g b i).A.nC.mb p=c.A.mb p:=fun p hp=>if_neg ω
  have mnew:(c.new k g b i).A.nC.mb c.K.length=b:=if_pos rfl
  have dold:∀ p,p<c.K.length→((c.new k g b i).fs F).nE.dir p=(c.fs F).nE.dir p:=fun p hp=>congrArg NodeM.dir (Cp.new_at hp)
  have dnew:((c.new k g b i).fs F).nE.dir c.K.length=F.dir k:=congrArg NodeM.dir Cp.new_at'
  have hlook:∀ p s,elA (c.new k g b i).A.nC (Ai c.E p s)=elA c.A.nC (Ai c.E p s):=fun p s=>by
    cases hl:Ai c.E p s with
    | none=>rfl
    | some m=>
      obtain ⟨x,hx,_,_,e⟩:=BL hl
      show some (some ((c.new k g b i).A.nC.ad m))=some (some (c.A.ad m))
      rw [hold m (by rw [← e];exact (hc.e x hx).2.1)]
  have hnone:∀ s,Ai c.E c.K.length s=none:=fun s=>by
    cases hl:Ai c.E c.K.length s with
    | none=>rfl
    | some m=>
      obtain ⟨x,hx,e,_,_⟩:=BL hl
      have:=(hc.e x hx).1;omega
  exact {
    nd:=fun p hp=>by
      rw [hlen] at hp
      by_cases e:p=c.K.length
      · subst e;rw [hnew,Cp.new_ndV' hi];exact hb
      · rw [hold p ω,Cp.new_ndV ω];exact h.nd p (by rw [hlen0];omega)
    mp:=fun p hp hd=>by
      rw [hlen] at hp
      show MapG KN w _ _ (fun s=>elA (c.new k g b i).A.nC (Ai c.E p s))
      rw [funext (hlook p)]
      by_cases e:p=c.K.length
      · subst e
        rw [dnew] at hd
        rw [mnew]
        have e2:(fun s=>elA c.A.nC (Ai c.E c.K.length s))=fun _=>none:=by funext s;rw [hnone];rfl
        rw [e2];exact (hm hd).more (Nat.zero_le _)
      · rw [dold p ω] at hd
        rw [mold p ω]
        exact h.mp p (by rw [hlen0];omega) hd
    inj:=fun p q hp hq he=>by
      rw [hlen] at hp hq
      by_cases e1:p=c.K.length
      · by_cases e2:q=c.K.length
        · omega
        · rw [e1,hnew,hold q ω] at he;exact absurd he (ha q ω)
      · by_cases e2:q=c.K.length
        · rw [e2,hnew,hold p ω] at he;exact absurd he.symm (ha p ω)
        · rw [hold p ω,hold q ω] at he;exact h.inj p q (by rw [hlen0];omega) (by rw [hlen0];omega) he
    minj:=fun p q hp hq hdp hdq he=>by
      rw [hlen] at hp hq
      by_cases e1:p=c.K.length
      · by_cases e2:q=c.K.length
        · omega
        · rw [dold q ω] at hdq
          rw [e1,dnew] at hdp
          rw [e1,mnew,mold q ω] at he;exact absurd he (hma hdp q ω hdq)
      · rw [dold p ω] at hdp
        by_cases e2:q=c.K.length
        · rw [e2,dnew] at hdq
          rw [e2,mnew,mold p ω] at he;exact absurd he.symm (hma hdq p ω hdp)
        · rw [dold q ω] at hdq
          rw [mold p ω,mold q ω] at he;exact h.minj p q (by rw [hlen0];omega) (by rw [hlen0];omega) hdp hdq he }
theorem Sep.cpF (hc:CpOk F A c) (hd:F.dir k=false) (h:Sep w (Ah g 97 (cpV F A k none)::Av (c.fs F) c.A::R)):Sep w (Av ((c.new k g 0 i).fs F) (c.new k g 0 i).A::R):=by
  have hb:Blk w g _ _:=h.get 0 rfl
  have hN:NdP (c.fs F).nE c.A.nC w:=h.get 1 rfl
  have hl0:(c.fs F).nE.N.length=c.K.length:=Cp.len F c
  have nd:¬ F.dir k=true:=by rw [hd];decide
  have hap:∀ p,p<c.K.length→g≠c.A.ad p:=fun p hp e=>h.ap 0 1 _ _ ω rfl rfl g rfl ⟨p,by rw [hl0];exact hp,.inl e⟩
  have hj:NdP ((c.new k g 0 i).fs F).nE (c.new k g 0 i).A.nC w:=hN.cnew hc (fun q=>absurd q nd) (by rw [if_neg nd];exact hb) (fun q=>absurd q nd) hap (fun q=>absurd q nd)
  refine Sep.swap (A:=[_,_]) (B:=[Av ((c.new k g 0 i).fs F) (c.new k g 0 i).A]) h (Sep.cons (c:=Av ((c.new k g 0 i).fs F) (c.new k g 0 i).A) hj (Sep.nil w) (fun i d e=>by simp at e)) ?_
  intro j x hx q hq
  cases j with
  | succ j=>simp at hx
  | zero=>
    cases hx
    obtain ⟨p,hp,e⟩:=hq
    have hp':p<c.K.length+1:=by have:=(Cp.len F (c.new k g 0 i)).trans (c.new_len ..);have hp:p<((c.new k g 0 i).fs F).N.length:=hp;omega
    by_cases e1:p=c.K.length
    · rcases e with e | ⟨e,_⟩
      · rw [e1,show (c.new k g 0 i).A.nC.ad c.K.length=g from if_pos rfl] at e
        exact ⟨0,_,rfl,e⟩
      · rw [e1,show ((c.new k g 0 i).fs F).nE.dir c.K.length=F.dir k from congrArg NodeM.dir Cp.new_at'] at e;exact absurd e nd
    · rcases e with e | ⟨e,e2⟩
      · rw [show (c.new k g 0 i).A.nC.ad p=c.A.ad p from if_neg e1] at e
        exact ⟨1,_,rfl,p,by rw [hl0];omega,.inl e⟩
      · rw [show ((c.new k g 0 i).fs F).nE.dir p=(c.fs F).nE.dir p from congrArg NodeM.dir (Cp.new_at ω)] at e
        rw [show (c.new k g 0 i).A.nC.mb p=c.A.mb p from if_neg e1] at e2
        exact ⟨1,_,rfl,p,by rw [hl0];omega,.inr ⟨e,e2⟩⟩
theorem Sep.cpD (hc:CpOk F A c) (hd:F.dir k=true) (hi:i=A.ld k) (h:Sep w (Ah g 97 (cpV F A k (some b))::AM KN b 0 (fun _=>none)::Av (c.fs F) c.A::R)):Sep w (Av ((c.new k g b i).fs F) (c.new k g b i).A::R):=by
  have hb:Blk w g _ _:=h.get 0 rfl
  have hm:MapG KN w b 0 (fun _=>none):=h.get 1 rfl
  have hN:NdP (c.fs F).nE c.A.nC w:=h.get 2 rfl
  have hl0:(c.fs F).nE.N.length=c.K.length:=Cp.len F c
  have hap:∀ p,p<c.K.length→g≠c.A.ad p:=fun p hp e=>h.ap 0 2 _ _ ω rfl rfl g rfl ⟨p,by rw [hl0];exact hp,.inl e⟩
  have hap2:∀ p,p<c.K.length→(c.fs F).dir p=true→b≠c.A.mb p:=fun p hp hdp e=>h.ap 1 2 _ _ ω rfl rfl b rfl ⟨p,by rw [hl0];exact hp,.inr ⟨hdp,e⟩⟩
  have hj:NdP ((c.new k g b i).fs F).nE (c.new k g b i).A.nC w:=hN.cnew hc (fun _=>hi) (by rw [if_pos hd];exact hb) (fun _=>hm) hap (fun _=>hap2)
  refine Sep.swap (A:=[_,_,_]) (B:=[Av ((c.new k g b i).fs F) (c.new k g b i).A]) h (Sep.cons (c:=Av ((c.new k g b i).fs F) (c.new k g b i).A) hj (Sep.nil w) (fun i d e=>by simp at e)) ?_
  intro j x hx q hq
  cases j with
  | succ j=>simp at hx
  | zero=>
    cases hx
    obtain ⟨p,hp,e⟩:=hq
    have hp':p<c.K.length+1:=by have:=(Cp.len F (c.new k g b i)).trans (c.new_len ..);have hp:p<((c.new k g b i).fs F).N.length:=hp;omega
    by_cases e1:p=c.K.length
    · rcases e with e | ⟨_,e⟩
      · rw [e1,show (c.new k g b i).A.nC.ad c.K.length=g from if_pos rfl] at e
        exact ⟨0,_,rfl,e⟩
      · rw [e1,show (c.new k g b i).A.nC.mb c.K.length=b from if_pos rfl] at e
        exact ⟨1,_,rfl,e⟩
    · rcases e with e | ⟨e,e2⟩
      · rw [show (c.new k g b i).A.nC.ad p=c.A.ad p from if_neg e1] at e
        exact ⟨2,_,rfl,p,by rw [hl0];omega,.inl e⟩
      · rw [show ((c.new k g b i).fs F).nE.dir p=(c.fs F).nE.dir p from congrArg NodeM.dir (Cp.new_at ω)] at e
        rw [show (c.new k g b i).A.nC.mb p=c.A.mb p from if_neg e1] at e2
        exact ⟨2,_,rfl,p,by rw [hl0];omega,.inr ⟨e,e2⟩⟩
theorem Cp.new_L (c:Cp) (k g b:Nat) (i:Int):(c.new k g b i).L A=c.L A++[(A.ad k,g)]:=by
  unfold Cp.L
  rw [c.new_len,List.range_succ,List.map_append]
  congr 1
  · refine List.map_congr_left fun p hp=>?_
    have hp:=List.mem_range.1 hp
    rw [c.new_og _ _ _ _ hp,show (c.new k g b i).A.ad p=c.A.ad p from if_neg ω]
  · show [(A.ad ((c.new k g b i).og c.K.length),(c.new k g b i).A.ad c.K.length)]=_
    rw [c.new_og',show (c.new k g b i).A.ad c.K.length=g from if_pos rfl]
end
end
section
section
variable {F:FsM} {A:AdM} {c c1 c2 c':Cp} {k g b p:Nat} {i:Int}
structure Ext1 (F:FsM) (c c':Cp):Prop where
  K:∃ X,c'.K=c.K++X
  ad:∀ p,p<c.K.length→c'.A.ad p=c.A.ad p
  mb:∀ p,p<c.K.length→c'.A.mb p=c.A.mb p
  E:∀ p,p<c.K.length→∀ s,Ai c'.E p s=Ai c.E p s
  done:∀ p,c.K.length<p→p<c'.K.length→Done F c' p
theorem Ext1.new (F:FsM) (c:Cp) (k g b:Nat) (i:Int):Ext1 F c (c.new k g b i) where
  K:=⟨[k],rfl⟩
  ad p hp:=if_neg ω
  mb p hp:=if_neg ω
  E p hp s:=rfl
  done p h1 h2:=by rw [c.new_len] at h2;omega
theorem Ext1.step (h:Ext1 F c c1) (h2:Ext F c1 c2) (hq:c.K.length<c1.K.length):Ext1 F c c2 where
  K:=by obtain ⟨X,e⟩:=h.K;obtain ⟨Y,e2⟩:=h2.K;exact ⟨X++Y,by rw [e2,e,List.append_assoc]⟩
  ad p hp:=(h2.ad p ω).trans (h.ad p hp)
  mb p hp:=(h2.mb p ω).trans (h.mb p hp)
  E p hp s:=(h2.E p ω s).trans (h.E p hp s)
  done p h3 h4:=by
    by_cases hp:p<c1.K.length
    · exact (h.done p h3 hp).ext h2 hp
    · exact h2.done p ω h4
theorem Ext1.put (h:Ext1 F c c2) {s:ByteArray} {m:Nat} (hn:Ai c2.E c.K.length s=none):Ext1 F c (c2.put c.K.length s m) where
  K:=h.K
  ad:=h.ad
  mb:=h.mb
  E p hp t:=by rw [c2.put_look hn,if_neg ω];exact h.E p hp t
  done p h3 h4:=by
    obtain ⟨d1,d2⟩:=h.done p h3 h4
    exact ⟨fun t m ht=>by
      obtain ⟨h5,h6⟩:=d1 t m ht
      exact ⟨h5,by rw [c2.put_look hn,if_neg ω];exact h6⟩,fun t ht=>by rw [c2.put_look hn,if_neg ω];exact d2 t ht⟩
theorem Ext1.fin (h:Ext1 F c c2) (d:Done F c2 c.K.length):Ext F c c2:=⟨h.K,h.ad,h.mb,h.E,fun p h1 h2=>by
  by_cases e:p=c.K.length
  · subst e;exact d
  · exact h.done p ω h2⟩
def Come (F:FsM) (k q:Nat) (c:Cp) (left:ByteArray→Bool):Prop:=∀ s:ByteArray,s.size≤maxLen →
  (left s=true→Ai c.E q s=none)∧(Ai F.E k s=none→Ai c.E q s=none)∧(left s=false→∀ m,Ai F.E k s=some m→m∈c.K∧Ai c.E q s=some (c.K.idxOf m))
theorem Come.step {q:Nat} {left:ByteArray→Bool} (h:Come F k q c1 left) (e:Ext F c1 c2) (hq:q<c1.K.length):Come F k q c2 left:=fun s hs=>by
  obtain ⟨h1,h2,h3⟩:=h s hs
  rw [e.E q hq]
  exact ⟨h1,h2,fun hl m hm=>by
    obtain ⟨h4,h5⟩:=h3 hl m hm
    exact ⟨e.mem h4,by rw [h5,e.idx h4]⟩⟩
theorem Come.put {q:Nat} {left:ByteArray→Bool} (h:Come F k q c2 left) {t:ByteArray} (ht:t.size≤maxLen) (hl:left t=true) {m:Nat} (hm:Ai F.E k t=some m) (hk:m∈c2.K):Come F k q (c2.put q t (c2.K.idxOf m)) (fun j=>left j&&!decide (j=t)):=fun s hs=>by
  have hn:=(h t ht).1 hl
  obtain ⟨h1,h2,h3⟩:=h s hs
  rw [c2.put_look hn]
  by_cases e:s=t
  · subst e
    refine ⟨fun q=>(by simp at q),fun q=>(by rw [hm] at q;cases q),fun _ m' hm'=>?_⟩
    rw [hm] at hm';cases hm'
    exact ⟨hk,if_pos ⟨rfl,rfl⟩⟩
  · rw [if_neg (fun q=>e q.2)]
    refine ⟨fun q=>h1 (by simpa [e] using q),h2,fun q m' hm'=>h3 (by simpa [e] using q) m' hm'⟩
theorem Come.start (hc:CpOk F A c) (q:Nat) (hn:∀ s,Ai c.E q s=none) (left:ByteArray→Bool) (hl:∀ s,left s=(Ai F.E k s).isSome):Come F k q c left:=fun s hs=>
  ⟨fun _=>hn s,fun _=>hn s,fun h m hm=>by rw [hl,hm] at h;cases h⟩
theorem Come.done {q:Nat} {left:ByteArray→Bool} {δ:Nat→Int} (h:Come F k q c left) (hc:CpOk F A c) (hF:FsC F δ) (ho:c.og q=k) (hl:∀ s:ByteArray,s.size≤maxLen→left s=false):Done F c q:=by
  constructor
  · intro s m hm
    rw [ho] at hm
    obtain ⟨x,hx,_,e,_⟩:=BL hm
    have hs:s.size≤maxLen:=CO (by rw [← e];exact (hF.e x hx).2.2)
    exact (h s hs).2.2 (hl s hs) m hm
  · intro s hn
    rw [ho] at hn
    cases hq:Ai c.E q s with
    | none=>rfl
    | some m=>
      have hs:s.size≤maxLen:=CO (hc.mayN hF hq)
      rw [(h s hs).2.1 hn] at hq;cases hq
theorem CpOk.fresh (hc:CpOk F A c) (s:ByteArray):Ai c.E c.K.length s=none:=by
  cases hl:Ai c.E c.K.length s with
  | none=>rfl
  | some m=>
    obtain ⟨x,hx,e,_,_⟩:=BL hl
    have:=(hc.e x hx).1;omega
theorem Mj {A:AdM} {o:Option Nat} {u:Option Nat} (h:elA A o=some u):∃ m,o=some m∧u=some (A.ad m):=by
  cases o with
  | none=>cases h
  | some m=>exact ⟨m,rfl,(Option.some.inj h).symm⟩
end
section
variable {F:FsM} {A:AdM} {c:Cp} {T:List Nat} {w:World} {k cb:Nat}
theorem NdO.ld (h:NdO F A T w) (hk:k<F.N.length) {t:TypeId} {d:TypeDesc} (hu:Tryz.prog.underlying t=some d) (hr:d.isRow=false) {j:Nat} {v:Value} (hv:(ndV F A k)[j]? = some v):(Instr.loadAt t (.pointer (some ⟨A.ad k,j,none⟩))).run Tryz.prog w=.ok v w:=ldB hu hr (h.nd k hk) hv
theorem Tq (hd:F.dir k=true):(ndV F A k)[3]? = some (.map (some (A.mb k))):=by unfold ndV mpM;rw [if_pos hd];rfl
theorem Tr (hd:F.dir k=false):(ndV F A k)[3]? = some (.map none):=by unfold ndV mpM;rw [if_neg (AH hd)];rfl
theorem RG (w:World):(zeroValue 62).run Tryz.prog w=.ok (.pointer none) w:=κ
theorem LN (h:NdO F A T w) (hM:PMap pV w cb (c.L A)) (hc:CpOk F A c) (hk:k<F.N.length):(Instr.lookup 61 (.map (some cb)) (pV (A.ad k)) false).run Tryz.prog w=.ok (if k∈c.K then pV (c.A.ad (c.K.idxOf k)) else .pointer none) w:=by
  have z:=hM.look υ61 υ62 (RG w) (h.tells hc hk)
  rw [hc.look h.inj hk] at z
  by_cases hm:k∈c.K
  · rw [if_pos hm] at z ⊢;exact z
  · rw [if_neg hm] at z ⊢;exact z
theorem SM (h:MapG KN w (A.mb k) A.B (fun s=>elA A (Ai F.E k s))):∃ n:Nat,∀ ty,(Builtin.len_ #[95] ty #[.map (some (A.mb k))]).run Tryz.prog w=.ok (ν (n:Int)) w:=by
  obtain ⟨D,h1,h2,h3⟩:=h
  exact ⟨_,fun ty=>h1.len KN.und ty⟩
end
section
variable {Q:Exit→Act→World→Prop} {o:Oper} {a:Act} {w w':World} {N:Nat} {l:List (Nat×Value)} {K:Act→World→Prop} {cs:List Ch} {α:Type} {av:α→Value} {L:List (Nat×α)}
theorem Rv (h:Kn N l a) (hd:o.dst=none) {T kt el E:TypeId} {m x y:Operand} (ho:o.op=.mapUpdate T m x y) (hS:Sep w cs) (i:Nat) {b:Nat} (hi:cs[i]? = some (pmC av b L)) (hm:opv l m=some (.map (some b))) {g:Nat} {u:α} (hx:opv l x=some (pV g)) (hy:opv l y=some (av u))
    (ht:Tryz.prog.underlying T=some (.map kt el)) (hk:Tryz.prog.underlying kt=some (.pointer E)) (hT:JQ w kt L g) (hn:EZ L g=none) {cs':List Ch} (hcs:cs.set i (pmC av b (L++[(g,u)]))=cs') (k:∀ a' w',Kn N l a'→Sep w' cs'→K a' w'):Oper.wp Tryz.prog o a w K Q:=by
  obtain ⟨w',hr,hm',t⟩:=(hS.get i hi:PMap av w b L).put ht hk hT hn u
  refine Hr (w':=w') h hd ?_ fun a' h'=>k a' _ h' (by rw [← hcs];exact hS.upd i hi t (fun k _ e=>e) hm' (fun k e=>.inl e))
  unfold execOp;rw [ho];simp only [h.op hm,h.op hx,h.op hy]
  rw [Sem.run_bind,hr];rfl
theorem Ru (h:Kn N l a) {d:Nat} (hd:o.dst=some d) (hdN:decide (d<N)=true) (hf:l.all (fun x=>!(x.1 == d))=true) {T:TypeId} (ho:o.op=.makeMap T none) (hS:Sep w cs)
    (k:∀ a' b w',Kn N ((d,.map (some b))::l) a'→Sep w' (pmC av b []::cs)→K a' w'):Oper.wp Tryz.prog o a w K Q:=
  Br h hd hdN hf (v:=.map (some w.heap.size)) (w':=w.alloc (.map #[] 0)) (by unfold execOp;rw [ho];rfl) fun a' h'=>k a' _ _ h' (hS.push (KY _ _) (PMap.new w) (fun k e=>by cases e;exact Nat.le_refl _))
theorem PO {ι β:Type} [DecidableEq ι] (M:MapK ι β) (h:Kn N l a) {d:Nat} (hd:o.dst=some d) (hdN:decide (d<N)=true) (hf:l.all (fun x=>!(x.1 == d))=true) {T:TypeId} {x:Operand} (ho:o.op=.makeMap T (some x)) (hT:T=M.t) {n:Int} (hx:opv l x=some (ν n)) (hS:Sep w cs)
    (k:∀ a' b w',Kn N ((d,.map (some b))::l) a'→Sep w' (AM M b 0 (fun _=>none)::cs)→K a' w'):Oper.wp Tryz.prog o a w K Q:=by
  subst hT
  refine Br h hd hdN hf (v:=.map (some w.heap.size)) (w':=w.alloc (.map #[] 0)) ?_ fun a' h'=>k a' _ _ h' (hS.push (KY _ _) (MapG.new w) (fun k e=>by cases e;exact Nat.le_refl _))
  unfold execOp;rw [ho]
  exact EB (by simp [Instr.makeMap,run_underlying M.und,asInt,asIntOf,Result.andThen,h.op hx])
def niC (r:Nat):Ch where
  F x:=x=r
  P w:=w.heap[r]? = some (.mapIter none 0 #[] 0)
  keep h t:=(t.block r (Array.getElem?_eq_some_iff.1 h).1 (fun q=>q rfl)).trans h
  lt h x hx:=hx ▸ (Array.getElem?_eq_some_iff.1 h).1
theorem Si (h:Kn N l a) {d:Nat} (hd:o.dst=some d) (hdN:decide (d<N)=true) (hf:l.all (fun x=>!(x.1 == d))=true) {T kt el:TypeId} {m:Operand} (ho:o.op=.range T m) (hT:Tryz.prog.underlying T=some (.map kt el)) (hm:opv l m=some (.map none)) (hS:Sep w cs)
    (k:∀ a' r w',Kn N ((d,π r)::l) a'→Sep w' (niC r::cs)→K a' w'):Oper.wp Tryz.prog o a w K Q:=by
  refine Br h hd hdN hf (v:=π w.heap.size) (w':=w.alloc (.mapIter none 0 #[] 0)) ?_ fun a' h'=>k a' _ _ h' (hS.push (KY _ _) (MapKept.heap_alloc w _).1 (fun k e=>by cases e;exact Nat.le_refl _))
  unfold execOp;rw [ho]
  simp only [h.op hm]
  exact EB (by simp [Instr.range,run_underlying hT,Result.andThen])
theorem SS (h:Kn N l a) {m:Operand} (ho:o.op=.next m false) (hS:Sep w cs) (i:Nat) {r:Nat} (hi:cs[i]? = some (niC r)) (hm:opv l m=some (π r)):(execOp a.eval o).run Tryz.prog w=.ok (.value (.tuple #[.bool false])) w:=by
  have hb:w.heap[r]? = some (.mapIter none 0 #[] 0):=hS.get i hi
  unfold execOp;rw [ho]
  simp only [h.op hm]
  have hg:(getObj r).run Tryz.prog w=.ok (.mapIter none 0 #[] 0) w:=by simp [getObj,Sem.run,hb]
  exact EB (by simp [Instr.next,hg,Result.andThen])
theorem Su (h:Kn N l a) (hd:o.dst=none) {T:TypeId} {mm x y:Operand} (ho:o.op=.mapUpdate T mm x y) (hT:T=95) {F:FsM} {A:AdM} {c:Cp} (hc:CpOk F A c) (hz:F.E.length≤1000) (hS:Sep w cs) (i:Nat) (hi:cs[i]? = some (Av (c.fs F) c.A)) {q gm m:Nat} (hq:q<c.K.length) (hdir:F.dir (c.og q)=true) (hgm:c.A.mb q=gm) (hm:opv l mm=some (.map (some gm))) {s:ByteArray} (hx:opv l x=some (.string s)) (hy:opv l y=some (.pointer (some ⟨c.A.ad m,0,none⟩)))
    (hs:s.size≤maxLen) (hn:Ai c.E q s=none) {cs':List Ch} (hcs:cs.set i (Av ((c.put q s m).fs F) (c.put q s m).A)=cs') (K2:∀ a' w',Kn N l a'→Sep w' cs'→K a' w'):Oper.wp Tryz.prog o a w K Q:=by
  subst hgm
  have hB:c.A.B<maxLen:=by
    have h1:=hc.few
    have h2:=hc.B
    have h3:1000<maxLen:=by decide +kernel
    omega
  have hd2:(c.fs F).dir q=true:=by unfold FsM.dir;rw [Cp.at F c hq];exact hdir
  exact FU (F:=c.fs F) (A:=c.A) (F':=(c.put q s m).fs F) (k:=q) (m:=m) h hd ho hT hS i hi hm hx hy (by rw [Cp.len];exact hq) hd2 hs hB rfl (fun j t=>c.put_look hn j t) hcs K2
theorem Mh {F:FsM} {c:Cp} (h:NdP (c.fs F).nE c.A.nC w) {q g gm:Nat} (hq:q<c.K.length) (hdir:F.dir (c.og q)=true) (hg:c.A.ad q=g) (hgm:c.A.mb q=gm) {t:TypeId} {d:TypeDesc} (hu:Tryz.prog.underlying t=some d) (hr:d.isRow=false):(Instr.loadAt t (.pointer (some ⟨g,3,none⟩))).run Tryz.prog w=.ok (.map (some gm)) w:=by
  subst hg;subst hgm
  have hd2:(c.fs F).nE.dir q=true:=by show (c.fs F).dir q=true;unfold FsM.dir;rw [Cp.at F c hq];exact hdir
  exact h.c3 (by show q<(c.fs F).N.length;rw [Cp.len];exact hq) hd2 hu hr
end
end
section
theorem CpOk.mi (c:Cp) {m:Nat} (h:m∈c.K):c.K.idxOf m<c.K.length:=(c.og_idx h).1
theorem CpOk.underT {F:FsM} {c c2:Cp} {T:List Nat} {k:Nat} (hT:∀ t∈T,t∈c.K) (he:Ext1 F c c2) (hk:k∈c2.K):∀ t∈k::T,t∈c2.K:=fun t ht=>by
 rcases List.mem_cons.1 ht with rfl | ht
 ·exact hk
 ·obtain ⟨X,e⟩:=he.K;rw [e];exact List.mem_append_left _ (hT t ht)
theorem Ty {o:Oper} {a:Act} {N:Nat} {l:List (Nat×Value)} {b:Nat} {w:World} (h:Kn N l a) {x:Operand} {T:TypeId} (ho:o.op=.call { callee:=.builtin .len,args:=#[x],argTypes:=#[T] }) (hx:opv l x=some (.map (some b))) (hT:T=95) {n:Nat} (hl:∀ ty,(Builtin.len_ #[95] ty #[.map (some b)]).run Tryz.prog w=.ok (ν (n:Int)) w):(execOp a.eval o).run Tryz.prog w=.ok (.value (ν (n:Int))) w:=by
 subst hT
 refine Fe h (xs:=[x]) (vs:=[.map (some b)]) ho (by simp [hx]) fun cs=>?_
 show (builtin .len #[95] o.type cs #[.map (some b)]).run Tryz.prog w=_
 simp only [builtin,Sem.run_bind,hl o.type]
 rfl
theorem El (args:Array Value) (w:World):(callFunc 27 args).run Tryz.prog w=.ok (.enter 27 args) w:=by
 have h:=Tryz.func27
 go_simp
theorem Ln {w:World} {F:FsM} {A:AdM} {c:Cp} {T:List Nat} {R:List Ch} {k cb:Nat} {δ:Nat→Int} (hS0:Sep w ([nodO F A T,pmC pV cb (c.L A),Av (c.fs F) c.A]++R)) (hF:FsC F δ) (hz:SmF F) (hc:CpOk F A c) (hk:k<F.N.length) (hT0:∀ t∈T,t∈c.K) (hm:k∈c.K) :
  CallsR Tryz.prog 27 #[π (A.ad k),.map (some cb)] w (fun v w'=>∃ c':Cp,v=π (c'.A.ad (c'.K.idxOf k))∧Sep w' ([nodO F A T,pmC pV cb (c'.L A),Av (c'.fs F) c'.A]++R)∧CpOk F A c'∧Ext F c c'∧k∈c'.K∧(¬ k∈c.K→c'.og c.K.length=k)):=by
 have hS:Sep w [nodO F A T,pmC pV cb (c.L A),Av (c.fs F) c.A,Ch.many R]:=Sep.tail_many (xs:=[_,_,_]) hS0;clear hS0
 obtain ⟨hz1,hz2,hz3⟩:F.N.length≤1000∧F.E.length≤1000∧F.O.length≤1000:=hz
 refine AB Tryz.func27 rfl (N:=65) Tryz.ntmps27 (by show 2≤65;decide) [(0,π (A.ad k)),(1,.map (some cb))] rfl fun _ h1=>sqr fun _ hK3=>mv h1 rfl fun _ h4=>wpList_nil<|hK3 _ _<|sq fun _ hK6=>sqr fun _ hK7=>mvs 2 h4 rfl fun _ h2=>sw1 h2 rfl (v:=π (c.A.ad (c.K.idxOf k))) (Ds h2 rfl rfl rfl ((LN (hS.get 0 rfl:NdO _ _ _ _) (hS.get 1 rfl:PMap _ _ _ _) hc hk).trans (by rw [if_pos hm]))) fun _ h3=>mv h3 rfl fun _ h5=>h5.sn [5,4,0,1] rfl fun h6=>hK7 _ _ ?_
 refine sqr fun _ hK1=>mv h6 rfl fun _ h7=>bv h7 rfl (Iz _ υ62 _ _ _) fun _ h8=>h8.sn [13,5,4,0,1] rfl fun h9=>hK1 _ _<|wcT h9 rfl rfl<|h9.sk [5,4,0,1] rfl fun h10=>sqr fun _ hK2=>mv h10 rfl fun _ h11=>h11.sk [14,5,0,1] rfl fun h12=>?_
 refine mv h12 rfl fun _ h13=>h13.sn [4,5,0,1] rfl fun h14=>hK2 _ _<|wp_ret ?_
 try simp only [Exit.then,Exit.inBlock]
 refine Bn (v:=π (c.A.ad (c.K.idxOf k))) (Cf h14 rfl rfl) h14.defs ?_
 exact ⟨c,rfl,Sep.tail_un (xs:=[_,_,_]) (hS),hc,Ext.refl F c,hm,fun q=>absurd hm q⟩
theorem OM {w:World} {F:FsM} {A:AdM} {c:Cp} {T:List Nat} {R:List Ch} {k cb:Nat} {δ:Nat→Int} (hS0:Sep w ([nodO F A T,pmC pV cb (c.L A),Av (c.fs F) c.A]++R)) (hF:FsC F δ) (hz:SmF F) (hc:CpOk F A c) (hk:k<F.N.length) (hT0:∀ t∈T,t∈c.K) (hm:¬ k∈c.K) (hd:F.dir k=false) :
  CallsR Tryz.prog 27 #[π (A.ad k),.map (some cb)] w (fun v w'=>∃ c':Cp,v=π (c'.A.ad (c'.K.idxOf k))∧Sep w' ([nodO F A T,pmC pV cb (c'.L A),Av (c'.fs F) c'.A]++R)∧CpOk F A c'∧Ext F c c'∧k∈c'.K∧(¬ k∈c.K→c'.og c.K.length=k)):=by
 have hS:Sep w [nodO F A T,pmC pV cb (c.L A),Av (c.fs F) c.A,Ch.many R]:=Sep.tail_many (xs:=[_,_,_]) hS0;clear hS0
 obtain ⟨hz1,hz2,hz3⟩:F.N.length≤1000∧F.E.length≤1000∧F.O.length≤1000:=hz
 refine AB Tryz.func27 rfl (N:=65) Tryz.ntmps27 (by show 2≤65;decide) [(0,π (A.ad k)),(1,.map (some cb))] rfl fun _ h1=>sqr fun _ hK3=>mv h1 rfl fun _ h4=>wpList_nil<|hK3 _ _<|sq fun _ hK6=>sqr fun _ hK7=>mvs 2 h4 rfl fun _ h2=>sw1 h2 rfl (v:=.pointer none) (Ds h2 rfl rfl rfl ((LN (hS.get 0 rfl:NdO _ _ _ _) (hS.get 1 rfl:PMap _ _ _ _) hc hk).trans (by rw [if_neg hm]))) fun _ h3=>mv h3 rfl fun _ h5=>h5.sn [5,4,0,1] rfl fun h6=>hK7 _ _ ?_
 refine sqr fun _ hK1=>mv h6 rfl fun _ h7=>bv h7 rfl (Iz _ υ62 _ _ _) fun _ h8=>h8.sn [13,5,4,0,1] rfl fun h9=>hK1 _ _<|wcF h9 rfl rfl<|h9.sk [5,4,0,1] rfl fun h10=>wp_skip<|hK6 _ _<|sq fun K1 hK2=>?_
 have hJ25:∀ (g:Nat) a' w',Kn 65 [(5,.pointer none),(4,.pointer none),(0,π (A.ad k)),(1,.map (some cb)),(6,π g)] a'→Sep w' [Ah g 97 [ν (AP (F.dir k)),ν (AR F A k),σ ((F.at k).data),.map none],nodO F A T,pmC pV cb (c.L A),Av (c.fs F) c.A,Ch.many R]→K1 a' w':=by
  intro g a1 w2 h11 s1
  refine hK2 _ _ ?_
  refine sqr fun _ hK4=>mvs 3 h11 rfl fun _ h12=>so (wn rfl) fun _ hK5=>Rv (av:=pV) (g:=A.ad k) (u:=g) h12 rfl rfl s1 2 rfl rfl rfl rfl υ61 υ62 (NdO.tells (s1.get 1 rfl:NdO _ _ _ _) hc hk) (by rw [hc.look (s1.get 1 rfl:NdO _ _ _ _).inj hk,if_neg hm]) (cs':=[Ah g 97 [ν (AP (F.dir k)),ν (AR F A k),σ ((F.at k).data),.map none],nodO F A T,pmC pV cb (c.L A++[(A.ad k,g)]),Av (c.fs F) c.A,Ch.many R]) rfl fun _ w3 h13 s2=>hK5 _ _ ?_
  refine h13.sn [5,4,0,1,6] rfl fun h14=>hK4 _ _<|sq fun _ hK8=>sqr fun _ hK9=>mvs 2 h14 rfl fun _ h15=>sv1 h15 rfl (v:=π (A.ad k)) (rfa h15 rfl rfl (fun w=>Ay (A.ad k) 0 w)) fun _ h16=>sw1 h16 rfl (v:=ν (AP (F.dir k))) (rld h16 rfl rfl (NdO.ld (k:=k) (s2.get 1 rfl:NdO _ _ _ _) hk υ3 rfl rfl)) fun _ h17=>bv h17 (z:=.bool (F.dir k)) rfl (cEq _ _ _ _ (GZ _)) fun _ h18=>h18.sn [36,5,4,0,1,6] rfl fun h19=>hK9 _ _<|wcF h19 rfl hd ?_
  refine h19.sk [5,4,0,1,6] rfl fun h20=>wp_skip<|hK8 _ _<|sq fun _ hK10=>sq fun _ hK11=>?_
  have s3:=Sep.cpF (i:=A.ld k) hc hd (s2.pk [0,3,1,2,4] rfl)
  rw [← Cp.new_L c k g 0 (A.ld k)] at s3
  obtain ⟨c1,hc1⟩:∃ x,x=c.new k g 0 (A.ld k):=⟨_,rfl⟩
  rw [← hc1] at s3
  have hc1k:CpOk F A c1:=hc1 ▸ hc.new hk hm g 0 rfl
  have hl1:c1.K.length=c.K.length+1:=hc1 ▸ c.new_len k g 0 (A.ld k)
  have ho1:c1.og c.K.length=k:=hc1 ▸ c.new_og' k g 0 (A.ld k)
  have hg1:c1.A.ad c.K.length=g:=by rw [hc1];exact if_pos rfl
  have he1:Ext1 F c c1:=hc1 ▸ Ext1.new F c k g 0 (A.ld k)
  have hf1:∀ s,Ai c1.E c.K.length s=none:=fun s=>by rw [hc1];exact hc.fresh s
  have hk1:k∈c1.K:=by rw [hc1];exact List.mem_append_right _ (List.mem_singleton.2 rfl)
  refine wp_region_lit<|mvs 2 h20 rfl fun _ h21=>sv1 h21 rfl (v:=.pointer (some ⟨(A.ad k),3,none⟩)) (rfa h21 rfl rfl (fun w=>AF (A.ad k) 0 w)) fun _ h22=>sw1 h22 rfl (v:=.map none) (rld h22 rfl rfl (NdO.ld (k:=k) (s3.get 1 rfl:NdO _ _ _ _) hk υ95 rfl (Tr hd))) fun _ h23=>so (wn rfl) fun _ hK12=>Si h23 rfl rfl rfl rfl υ95 rfl s3 fun _ r1 w4 h24 s4=>hK12 _ _ ?_
  refine h24.sn [50,5,4,0,1,6] rfl fun h25=>hK11 _ _<|wp_block ?_
  refine DC (fun (z:Nat) a' w'=>Kn 65 [(50,π r1),(5,.pointer none),(4,.pointer none),(0,π (A.ad k)),(1,.map (some cb)),(6,π g)] a'∧Sep w' [niC r1,Av (c1.fs F) c1.A,nodO F A T,pmC pV cb (c1.L A),Ch.many R]) (fun (z:Nat)=>0) 0 ⟨h25.subs rfl,s4⟩ ?_
  rintro z80 a2 w5 ⟨h26,s5⟩ K2 hK13
  refine sqr fun _ hK14=>sw1 h26 rfl (v:=.tuple #[.bool false]) (SS h26 rfl s5 0 rfl rfl) fun _ h27=>mv h27 rfl fun _ h28=>h28.sn [52,50,5,4,0,1,6] rfl fun h29=>hK14 _ _<|sq fun _ hK15=>wcF h29 rfl rfl<|h29.sk [50,5,4,0,1,6] rfl fun h30=>wp_exit ?_
  refine hK10 _ _ ?_
  refine sqr fun _ hK16=>mv h30 rfl fun _ h31=>h31.sk [64,50,5,0,1,6] rfl fun h32=>mv h32 rfl fun _ h33=>h33.sn [4,50,5,0,1,6] rfl fun h34=>hK16 _ _<|wp_ret ?_
  try simp only [Exit.then,Exit.inBlock]
  refine Bn (v:=π g) (Cf h34 rfl rfl) h34.defs ?_
  have hi1:c1.K.idxOf k=c.K.length:=hc1k.og_inj (c1.og_idx hk1).1 ω ((c1.og_idx hk1).2.trans ho1.symm)
  refine ⟨c1,by rw [hi1,hg1],Sep.tail_un (xs:=[_,_,_]) ((s5.pk [2,3,1,4] rfl)),hc1k,he1.fin ?_,hk1,fun _=>ho1⟩
  exact ⟨fun s m h=>(by rw [ho1] at h;obtain ⟨x,hx,e1,_⟩:=BL h;have:=(hF.e x hx).1.2;rw [e1,hd] at this;cases this),fun s _=>hf1 s⟩
 have s6:=hS.drew
 refine wp_region_held_drew (S:=fun w'=>Sep w' [nodO F A T,pmC pV cb (c.L A),Av (c.fs F) c.A,Ch.many R]) κ s6 (fun hq1=>?_)
 refine tv1 hq1 h10 0 rfl rfl (v:=π (A.ad k)) (fun w1 _=>(Ap h10 rfl rfl) w1) fun _ h35=>?_
 refine tv1 hq1 h35 1 rfl rfl (v:=π (A.ad k)) (fun w1 _=>(Cu h35 rfl rfl) w1) fun _ h36=>?_
 refine tv1 hq1 h36 2 rfl rfl (v:=π (A.ad k)) (fun w1 _=>(rfa h36 rfl rfl (fun w=>Ay (A.ad k) 0 w)) w1) fun _ h37=>?_
 refine tv1 hq1 h37 4 rfl rfl (v:=π (A.ad k)) (fun w1 _=>(Ap h37 rfl rfl) w1) fun _ h38=>?_
 refine tv1 hq1 h38 5 rfl rfl (v:=π (A.ad k)) (fun w1 _=>(Cu h38 rfl rfl) w1) fun _ h39=>?_
 refine tv1 hq1 h39 6 rfl rfl (v:=.pointer (some ⟨(A.ad k),1,none⟩)) (fun w1 _=>(rfa h39 rfl rfl (fun w=>Bk (A.ad k) 0 w)) w1) fun _ h40=>?_
 refine tv1 hq1 h40 8 rfl rfl (v:=π (A.ad k)) (fun w1 _=>(Ap h40 rfl rfl) w1) fun _ h41=>?_
 refine tv1 hq1 h41 9 rfl rfl (v:=π (A.ad k)) (fun w1 _=>(Cu h41 rfl rfl) w1) fun _ h42=>?_
 refine tv1 hq1 h42 10 rfl rfl (v:=.pointer (some ⟨(A.ad k),2,none⟩)) (fun w1 _=>(rfa h42 rfl rfl (fun w=>Bl (A.ad k) 0 w)) w1) fun _ h43=>?_
 refine wpAnyH_ready (rs:=[3,7,11]) κ (by simp) (toc rfl (wn rfl) (fun K3 hK17=>?_) (toc rfl (wn rfl) (fun K3 hK17=>?_) (toc rfl (wn rfl) (fun K3 hK17=>?_) AllReadyH.nil)))
 ·skip
  refine Br h43 rfl rfl rfl (v:=ν (AP (F.dir k))) (w':=w.drew) ((rld h43 rfl rfl (NdO.ld (k:=k) (s6.get 0 rfl:NdO _ _ _ _) hk υ3 rfl rfl))) fun _ h44=>hK17 _ _ s6 fun hq2=>?_
  refine wpAnyH_ready (rs:=[7,11]) κ (by simp) (toc rfl (wn rfl) (fun K4 hK18=>?_) (toc rfl (wn rfl) (fun K4 hK18=>?_) AllReadyH.nil))
  ·skip
   refine Br h44 rfl rfl rfl (v:=ν (AR F A k)) (w':=w.drew) ((rld h44 rfl rfl (NdO.ld (k:=k) (s6.get 0 rfl:NdO _ _ _ _) hk υ3 rfl rfl))) fun _ h45=>hK18 _ _ s6 fun hq3=>?_
   refine to_ 11 rfl (wn rfl) κ fun _ hK19=>Br h45 rfl rfl rfl (v:=σ ((F.at k).data)) (w':=w.drew) ((rld h45 rfl rfl (NdO.ld (k:=k) (s6.get 0 rfl:NdO _ _ _ _) hk υ9 rfl rfl))) fun _ h46=>hK19 _ _ s6 fun hq4=>?_
   refine tv1 hq4 h46 12 rfl rfl (v:=.agg #[ν (AP (F.dir k)),ν (AR F A k),σ ((F.at k).data),.map none]) (fun w1 _=>(CP h46 (xs:=[(0,.tmp 18),(1,.tmp 22),(2,.tmp 26)]) rfl (vs:=[(0,ν (AP (F.dir k))),(1,ν (AR F A k)),(2,σ ((F.at k).data))]) rfl (fun w=>κ)) w1) fun _ h47=>?_
   refine to_ 13 rfl (wn rfl) κ fun _ hK20=>Cv h47 rfl rfl rfl rfl rfl (z:=[ν (AP (F.dir k)),ν (AR F A k),σ ((F.at k).data),.map none]) rfl s6 fun _ g1 w6 h48 s7 _ _=>?_
   refine hK20 _ _ (s7.pk [1,2,3,4] rfl) fun hq5=>?_
   refine tv1 hq5 h48 14 rfl rfl (v:=π g1) (fun w1 _=>(BJ h48 rfl rfl) w1) fun _ h49=>?_
   refine h49.sk [6,5,4,0,1] rfl fun h50=>?_
   refine wpAnyH_done κ ?_ _
   exact hJ25 g1 _ _ (h50.subs rfl) s7 
  ·skip
   refine Br h44 rfl rfl rfl (v:=σ ((F.at k).data)) (w':=w.drew) ((rld h44 rfl rfl (NdO.ld (k:=k) (s6.get 0 rfl:NdO _ _ _ _) hk υ9 rfl rfl))) fun _ h51=>hK18 _ _ s6 fun hq6=>?_
   refine to_ 7 rfl (wn rfl) κ fun _ hK21=>Br h51 rfl rfl rfl (v:=ν (AR F A k)) (w':=w.drew) ((rld h51 rfl rfl (NdO.ld (k:=k) (s6.get 0 rfl:NdO _ _ _ _) hk υ3 rfl rfl))) fun _ h52=>hK21 _ _ s6 fun hq7=>?_
   refine tv1 hq7 h52 12 rfl rfl (v:=.agg #[ν (AP (F.dir k)),ν (AR F A k),σ ((F.at k).data),.map none]) (fun w1 _=>(CP h52 (xs:=[(0,.tmp 18),(1,.tmp 22),(2,.tmp 26)]) rfl (vs:=[(0,ν (AP (F.dir k))),(1,ν (AR F A k)),(2,σ ((F.at k).data))]) rfl (fun w=>κ)) w1) fun _ h53=>?_
   refine to_ 13 rfl (wn rfl) κ fun _ hK22=>Cv h53 rfl rfl rfl rfl rfl (z:=[ν (AP (F.dir k)),ν (AR F A k),σ ((F.at k).data),.map none]) rfl s6 fun _ g2 w7 h54 s8 _ _=>?_
   refine hK22 _ _ (s8.pk [1,2,3,4] rfl) fun hq8=>?_
   refine tv1 hq8 h54 14 rfl rfl (v:=π g2) (fun w1 _=>(BJ h54 rfl rfl) w1) fun _ h55=>?_
   refine h55.sk [6,5,4,0,1] rfl fun h56=>?_
   refine wpAnyH_done κ ?_ _
   exact hJ25 g2 _ _ (h56.subs rfl) s8 
 ·skip
  refine Br h43 rfl rfl rfl (v:=ν (AR F A k)) (w':=w.drew) ((rld h43 rfl rfl (NdO.ld (k:=k) (s6.get 0 rfl:NdO _ _ _ _) hk υ3 rfl rfl))) fun _ h57=>hK17 _ _ s6 fun hq9=>?_
  refine wpAnyH_ready (rs:=[3,11]) κ (by simp) (toc rfl (wn rfl) (fun K5 hK23=>?_) (toc rfl (wn rfl) (fun K5 hK23=>?_) AllReadyH.nil))
  ·skip
   refine Br h57 rfl rfl rfl (v:=ν (AP (F.dir k))) (w':=w.drew) ((rld h57 rfl rfl (NdO.ld (k:=k) (s6.get 0 rfl:NdO _ _ _ _) hk υ3 rfl rfl))) fun _ h58=>hK23 _ _ s6 fun hq10=>?_
   refine to_ 11 rfl (wn rfl) κ fun _ hK24=>Br h58 rfl rfl rfl (v:=σ ((F.at k).data)) (w':=w.drew) ((rld h58 rfl rfl (NdO.ld (k:=k) (s6.get 0 rfl:NdO _ _ _ _) hk υ9 rfl rfl))) fun _ h59=>hK24 _ _ s6 fun hq11=>?_
   refine tv1 hq11 h59 12 rfl rfl (v:=.agg #[ν (AP (F.dir k)),ν (AR F A k),σ ((F.at k).data),.map none]) (fun w1 _=>(CP h59 (xs:=[(0,.tmp 18),(1,.tmp 22),(2,.tmp 26)]) rfl (vs:=[(0,ν (AP (F.dir k))),(1,ν (AR F A k)),(2,σ ((F.at k).data))]) rfl (fun w=>κ)) w1) fun _ h60=>?_
   refine to_ 13 rfl (wn rfl) κ fun _ hK25=>Cv h60 rfl rfl rfl rfl rfl (z:=[ν (AP (F.dir k)),ν (AR F A k),σ ((F.at k).data),.map none]) rfl s6 fun _ g3 w8 h61 s9 _ _=>?_
   refine hK25 _ _ (s9.pk [1,2,3,4] rfl) fun hq12=>?_
   refine tv1 hq12 h61 14 rfl rfl (v:=π g3) (fun w1 _=>(BJ h61 rfl rfl) w1) fun _ h62=>?_
   refine h62.sk [6,5,4,0,1] rfl fun h63=>?_
   refine wpAnyH_done κ ?_ _
   exact hJ25 g3 _ _ (h63.subs rfl) s9 
  ·skip
   refine Br h57 rfl rfl rfl (v:=σ ((F.at k).data)) (w':=w.drew) ((rld h57 rfl rfl (NdO.ld (k:=k) (s6.get 0 rfl:NdO _ _ _ _) hk υ9 rfl rfl))) fun _ h64=>hK23 _ _ s6 fun hq13=>?_
   refine to_ 3 rfl (wn rfl) κ fun _ hK26=>Br h64 rfl rfl rfl (v:=ν (AP (F.dir k))) (w':=w.drew) ((rld h64 rfl rfl (NdO.ld (k:=k) (s6.get 0 rfl:NdO _ _ _ _) hk υ3 rfl rfl))) fun _ h65=>hK26 _ _ s6 fun hq14=>?_
   refine tv1 hq14 h65 12 rfl rfl (v:=.agg #[ν (AP (F.dir k)),ν (AR F A k),σ ((F.at k).data),.map none]) (fun w1 _=>(CP h65 (xs:=[(0,.tmp 18),(1,.tmp 22),(2,.tmp 26)]) rfl (vs:=[(0,ν (AP (F.dir k))),(1,ν (AR F A k)),(2,σ ((F.at k).data))]) rfl (fun w=>κ)) w1) fun _ h66=>?_
   refine to_ 13 rfl (wn rfl) κ fun _ hK27=>Cv h66 rfl rfl rfl rfl rfl (z:=[ν (AP (F.dir k)),ν (AR F A k),σ ((F.at k).data),.map none]) rfl s6 fun _ g4 w9 h67 s10 _ _=>?_
   refine hK27 _ _ (s10.pk [1,2,3,4] rfl) fun hq15=>?_
   refine tv1 hq15 h67 14 rfl rfl (v:=π g4) (fun w1 _=>(BJ h67 rfl rfl) w1) fun _ h68=>?_
   refine h68.sk [6,5,4,0,1] rfl fun h69=>?_
   refine wpAnyH_done κ ?_ _
   exact hJ25 g4 _ _ (h69.subs rfl) s10 
 ·skip
  refine Br h43 rfl rfl rfl (v:=σ ((F.at k).data)) (w':=w.drew) ((rld h43 rfl rfl (NdO.ld (k:=k) (s6.get 0 rfl:NdO _ _ _ _) hk υ9 rfl rfl))) fun _ h70=>hK17 _ _ s6 fun hq16=>?_
  refine wpAnyH_ready (rs:=[3,7]) κ (by simp) (toc rfl (wn rfl) (fun K6 hK28=>?_) (toc rfl (wn rfl) (fun K6 hK28=>?_) AllReadyH.nil))
  ·skip
   refine Br h70 rfl rfl rfl (v:=ν (AP (F.dir k))) (w':=w.drew) ((rld h70 rfl rfl (NdO.ld (k:=k) (s6.get 0 rfl:NdO _ _ _ _) hk υ3 rfl rfl))) fun _ h71=>hK28 _ _ s6 fun hq17=>?_
   refine to_ 7 rfl (wn rfl) κ fun _ hK29=>Br h71 rfl rfl rfl (v:=ν (AR F A k)) (w':=w.drew) ((rld h71 rfl rfl (NdO.ld (k:=k) (s6.get 0 rfl:NdO _ _ _ _) hk υ3 rfl rfl))) fun _ h72=>hK29 _ _ s6 fun hq18=>?_
   refine tv1 hq18 h72 12 rfl rfl (v:=.agg #[ν (AP (F.dir k)),ν (AR F A k),σ ((F.at k).data),.map none]) (fun w1 _=>(CP h72 (xs:=[(0,.tmp 18),(1,.tmp 22),(2,.tmp 26)]) rfl (vs:=[(0,ν (AP (F.dir k))),(1,ν (AR F A k)),(2,σ ((F.at k).data))]) rfl (fun w=>κ)) w1) fun _ h73=>?_
   refine to_ 13 rfl (wn rfl) κ fun _ hK30=>Cv h73 rfl rfl rfl rfl rfl (z:=[ν (AP (F.dir k)),ν (AR F A k),σ ((F.at k).data),.map none]) rfl s6 fun _ g5 w10 h74 s11 _ _=>?_
   refine hK30 _ _ (s11.pk [1,2,3,4] rfl) fun hq19=>?_
   refine tv1 hq19 h74 14 rfl rfl (v:=π g5) (fun w1 _=>(BJ h74 rfl rfl) w1) fun _ h75=>?_
   refine h75.sk [6,5,4,0,1] rfl fun h76=>?_
   refine wpAnyH_done κ ?_ _
   exact hJ25 g5 _ _ (h76.subs rfl) s11 
  ·skip
   refine Br h70 rfl rfl rfl (v:=ν (AR F A k)) (w':=w.drew) ((rld h70 rfl rfl (NdO.ld (k:=k) (s6.get 0 rfl:NdO _ _ _ _) hk υ3 rfl rfl))) fun _ h77=>hK28 _ _ s6 fun hq20=>?_
   refine to_ 3 rfl (wn rfl) κ fun _ hK31=>Br h77 rfl rfl rfl (v:=ν (AP (F.dir k))) (w':=w.drew) ((rld h77 rfl rfl (NdO.ld (k:=k) (s6.get 0 rfl:NdO _ _ _ _) hk υ3 rfl rfl))) fun _ h78=>hK31 _ _ s6 fun hq21=>?_
   refine tv1 hq21 h78 12 rfl rfl (v:=.agg #[ν (AP (F.dir k)),ν (AR F A k),σ ((F.at k).data),.map none]) (fun w1 _=>(CP h78 (xs:=[(0,.tmp 18),(1,.tmp 22),(2,.tmp 26)]) rfl (vs:=[(0,ν (AP (F.dir k))),(1,ν (AR F A k)),(2,σ ((F.at k).data))]) rfl (fun w=>κ)) w1) fun _ h79=>?_
   refine to_ 13 rfl (wn rfl) κ fun _ hK32=>Cv h79 rfl rfl rfl rfl rfl (z:=[ν (AP (F.dir k)),ν (AR F A k),σ ((F.at k).data),.map none]) rfl s6 fun _ g6 w11 h80 s12 _ _=>?_
   refine hK32 _ _ (s12.pk [1,2,3,4] rfl) fun hq22=>?_
   refine tv1 hq22 h80 14 rfl rfl (v:=π g6) (fun w1 _=>(BJ h80 rfl rfl) w1) fun _ h81=>?_
   refine h81.sk [6,5,4,0,1] rfl fun h82=>?_
   refine wpAnyH_done κ ?_ _
   exact hJ25 g6 _ _ (h82.subs rfl) s12 
theorem OL {w:World} {F:FsM} {A:AdM} {c:Cp} {T:List Nat} {R:List Ch} {k cb:Nat} {δ:Nat→Int} (hS0:Sep w ([nodO F A T,pmC pV cb (c.L A),Av (c.fs F) c.A]++R)) (hF:FsC F δ) (hz:SmF F) (hc:CpOk F A c) (hk:k<F.N.length) (hT0:∀ t∈T,t∈c.K) {n:Nat} (hm:¬ k∈c.K) (hd:F.dir k=true) (hn:F.N.length-c.K.length≤n+1) (ih:∀ {w:World} {c:Cp} {k:Nat} {T:List Nat} {R:List Ch},F.N.length-c.K.length≤n→CpOk F A c→k<F.N.length→(∀ t∈T,t∈c.K)→Sep w ([nodO F A T,pmC pV cb (c.L A),Av (c.fs F) c.A]++R)→CallsR Tryz.prog 27 #[π (A.ad k),.map (some cb)] w (fun v w'=>∃ c':Cp,v=π (c'.A.ad (c'.K.idxOf k))∧Sep w' ([nodO F A T,pmC pV cb (c'.L A),Av (c'.fs F) c'.A]++R)∧CpOk F A c'∧Ext F c c'∧k∈c'.K∧(¬ k∈c.K→c'.og c.K.length=k))) :
  CallsR Tryz.prog 27 #[π (A.ad k),.map (some cb)] w (fun v w'=>∃ c':Cp,v=π (c'.A.ad (c'.K.idxOf k))∧Sep w' ([nodO F A T,pmC pV cb (c'.L A),Av (c'.fs F) c'.A]++R)∧CpOk F A c'∧Ext F c c'∧k∈c'.K∧(¬ k∈c.K→c'.og c.K.length=k)):=by
 have hS:Sep w [nodO F A T,pmC pV cb (c.L A),Av (c.fs F) c.A,Ch.many R]:=Sep.tail_many (xs:=[_,_,_]) hS0;clear hS0
 obtain ⟨hz1,hz2,hz3⟩:F.N.length≤1000∧F.E.length≤1000∧F.O.length≤1000:=hz
 have hT:¬ k∈T:=fun q=>hm (hT0 k q)
 have hrm:=hc.room hk hm
 obtain ⟨mk,hmk⟩:∃ x,x=A.mb k:=⟨_,rfl⟩
 refine AB Tryz.func27 rfl (N:=65) Tryz.ntmps27 (by show 2≤65;decide) [(0,π (A.ad k)),(1,.map (some cb))] rfl fun _ h1=>sqr fun _ hK3=>mv h1 rfl fun _ h4=>wpList_nil<|hK3 _ _<|sq fun _ hK6=>sqr fun _ hK7=>mvs 2 h4 rfl fun _ h2=>sw1 h2 rfl (v:=.pointer none) (Ds h2 rfl rfl rfl ((LN (hS.get 0 rfl:NdO _ _ _ _) (hS.get 1 rfl:PMap _ _ _ _) hc hk).trans (by rw [if_neg hm]))) fun _ h3=>mv h3 rfl fun _ h5=>h5.sn [5,4,0,1] rfl fun h6=>hK7 _ _ ?_
 refine sqr fun _ hK1=>mv h6 rfl fun _ h7=>bv h7 rfl (Iz _ υ62 _ _ _) fun _ h8=>h8.sn [13,5,4,0,1] rfl fun h9=>hK1 _ _<|wcF h9 rfl rfl<|h9.sk [5,4,0,1] rfl fun h10=>wp_skip<|hK6 _ _<|sq fun K1 hK2=>?_
 have hJ25:∀ (g:Nat) a' w',Kn 65 [(5,.pointer none),(4,.pointer none),(0,π (A.ad k)),(1,.map (some cb)),(6,π g)] a'→Sep w' [Ah g 97 [ν (AP (F.dir k)),ν (AR F A k),σ ((F.at k).data),.map none],nodO F A T,pmC pV cb (c.L A),Av (c.fs F) c.A,Ch.many R]→K1 a' w':=by
  intro g a1 w2 h11 s1
  refine hK2 _ _ ?_
  refine sqr fun _ hK4=>mvs 3 h11 rfl fun _ h12=>so (wn rfl) fun _ hK5=>Rv (av:=pV) (g:=A.ad k) (u:=g) h12 rfl rfl s1 2 rfl rfl rfl rfl υ61 υ62 (NdO.tells (s1.get 1 rfl:NdO _ _ _ _) hc hk) (by rw [hc.look (s1.get 1 rfl:NdO _ _ _ _).inj hk,if_neg hm]) (cs':=[Ah g 97 [ν (AP (F.dir k)),ν (AR F A k),σ ((F.at k).data),.map none],nodO F A T,pmC pV cb (c.L A++[(A.ad k,g)]),Av (c.fs F) c.A,Ch.many R]) rfl fun _ w3 h13 s2=>hK5 _ _ ?_
  refine h13.sn [5,4,0,1,6] rfl fun h14=>hK4 _ _<|sq fun _ hK8=>sqr fun _ hK9=>mvs 2 h14 rfl fun _ h15=>sv1 h15 rfl (v:=π (A.ad k)) (rfa h15 rfl rfl (fun w=>Ay (A.ad k) 0 w)) fun _ h16=>sw1 h16 rfl (v:=ν (AP (F.dir k))) (rld h16 rfl rfl (NdO.ld (k:=k) (s2.get 1 rfl:NdO _ _ _ _) hk υ3 rfl rfl)) fun _ h17=>bv h17 (z:=.bool (F.dir k)) rfl (cEq _ _ _ _ (GZ _)) fun _ h18=>h18.sn [36,5,4,0,1,6] rfl fun h19=>hK9 _ _<|wcT h19 rfl hd ?_
  refine h19.sk [5,4,0,1,6] rfl fun h20=>wp_region_lit<|mvs 3 h20 rfl fun _ h21=>sv1 h21 rfl (v:=.pointer (some ⟨(A.ad k),3,none⟩)) (rfa h21 rfl rfl (fun w=>AF (A.ad k) 0 w)) fun _ h22=>sw1 h22 rfl (v:=.map (some mk)) (rld h22 rfl rfl (NdO.ld (k:=k) (s2.get 1 rfl:NdO _ _ _ _) hk υ95 rfl (show (ndV F A k)[3]? = some (.map (some mk)) by rw [hmk];exact Tq hd))) fun _ h23=>?_
  obtain ⟨ln67,hln68⟩:=SM ((s2.get 1 rfl:NdO _ _ _ _).mp k hk hd hT)
  rw [← hmk] at hln68
  refine sw1 h23 rfl (v:=ν (ln67:Int)) (Ty h23 rfl rfl rfl hln68) fun _ h24=>so (wn rfl) fun _ hK10=>PO KN h24 rfl rfl rfl rfl rfl rfl s2 fun _ gm71 w4 h25 s3=>hK10 _ _ ?_
  refine mv h25 rfl fun _ h26=>fav h26 rfl (AF _ _) fun _ h27=>st1 h27 s3 1 rfl rfl κ rfl rfl rfl rfl fun _ w5 h28 s4 _=>h28.sn [5,4,0,1,6] rfl fun h29=>hK8 _ _<|sq fun _ hK11=>sq fun _ hK12=>?_
  have s5:=Sep.cpD (i:=A.ld k) hc hd rfl (s4.pk [1,0,4,2,3,5] rfl)
  rw [← Cp.new_L c k g gm71 (A.ld k)] at s5
  obtain ⟨c1,hc1⟩:∃ x,x=c.new k g gm71 (A.ld k):=⟨_,rfl⟩
  rw [← hc1] at s5
  have hc1k:CpOk F A c1:=hc1 ▸ hc.new hk hm g gm71 rfl
  have hl1:c1.K.length=c.K.length+1:=hc1 ▸ c.new_len k g gm71 (A.ld k)
  have ho1:c1.og c.K.length=k:=hc1 ▸ c.new_og' k g gm71 (A.ld k)
  have hg1:c1.A.ad c.K.length=g:=by rw [hc1];exact if_pos rfl
  have he1:Ext1 F c c1:=hc1 ▸ Ext1.new F c k g gm71 (A.ld k)
  have hf1:∀ s,Ai c1.E c.K.length s=none:=fun s=>by rw [hc1];exact hc.fresh s
  have hk1:k∈c1.K:=by rw [hc1];exact List.mem_append_right _ (List.mem_singleton.2 rfl)
  have hgm1:c1.A.mb c.K.length=gm71:=by rw [hc1];exact if_pos rfl
  have s6:=Sep.cutO (T:=T) hk hd hT (s5.pk [1,2,0,3] rfl)
  have s7:Sep w5 [AM KN mk A.B (fun s=>elA A (Ai F.E k s)),nodO F A (k::T),pmC pV cb (c1.L A),Av (c1.fs F) c1.A,Ch.many R]:=by rw [hmk];exact s6
  refine wp_region_lit<|mvs 2 h29 rfl fun _ h30=>sv1 h30 rfl (v:=.pointer (some ⟨(A.ad k),3,none⟩)) (rfa h30 rfl rfl (fun w=>AF (A.ad k) 0 w)) fun _ h31=>sw1 h31 rfl (v:=.map (some mk)) (rld h31 rfl rfl (NdO.ld (k:=k) (s7.get 1 rfl:NdO _ _ _ _) hk υ95 rfl (show (ndV F A k)[3]? = some (.map (some mk)) by rw [hmk];exact Tq hd))) fun _ h32=>so (wn rfl) fun _ hK13=>Rw (M:=KN) h32 rfl rfl rfl rfl rfl s7 0 rfl rfl fun _ r1 w6 cnt102 h33 s8 _=>hK13 _ _ ?_
  have s9:=s8;clear s8
  refine h33.sn [50,5,4,0,1,6] rfl fun h34=>hK12 _ _<|wp_block ?_
  refine Ee (fun (left:ByteArray→Bool) (cnt:Nat) (c2:Cp) a' w'=>Kn 65 [(50,π r1),(5,.pointer none),(4,.pointer none),(0,π (A.ad k)),(1,.map (some cb)),(6,π g)] a'∧Sep w' [Ir KN mk r1 A.B (fun s=>elA A (Ai F.E k s)) left cnt,nodO F A (k::T),pmC pV cb (c2.L A),Av (c2.fs F) c2.A,Ch.many R]∧(CpOk F A c2)∧(Ext1 F c c2)∧(c.K.length<c2.K.length)∧(c2.og c.K.length=k)∧(c2.A.ad c.K.length=g)∧(c2.A.mb c.K.length=gm71)∧(Come F k c.K.length c2 left)∧(k∈c2.K)) (fun (left:ByteArray→Bool) (cnt:Nat) (c2:Cp)=>cnt) (fun i=>((fun s=>elA A (Ai F.E k s)) i).isSome) cnt102 c1 ⟨h34.subs rfl,s9,hc1k,he1,ω,ho1,hg1,hgm1,Come.start hc1k _ hf1 _ (fun s=>by show (elA A (Ai F.E k s)).isSome=_;unfold elA;rw [Option.isSome_map]),hk1⟩ ?_
  rintro left124 cnt125 c2126 a2 w7 ⟨h35,s10,hk2116,he117,hl118,ho119,hg120,hgm121,hcm122,hkm123⟩ K2 hK14
  have hd2:F.dir (c2126.og c.K.length)=true:=by rw [ho119];exact hd
  refine sqr fun _ hK15=>so (wn rfl) fun Ka129 hKa129=>St (M:=KN) h35 rfl rfl rfl rfl s10 0 rfl rfl (fun _ h36 hlh128=>hKa129 _ _ ?_) ?_
  ·skip
   refine mv h36 rfl fun _ h37=>h37.sn [52,50,5,4,0,1,6] rfl fun h38=>hK15 _ _<|sq fun _ hK16=>wcF h38 rfl rfl<|h38.sk [50,5,4,0,1,6] rfl fun h39=>wp_exit ?_
   refine hK11 _ _ ?_
   refine sqr fun _ hK17=>mv h39 rfl fun _ h40=>h40.sk [64,50,5,0,1,6] rfl fun h41=>mv h41 rfl fun _ h42=>h42.sn [4,50,5,0,1,6] rfl fun h43=>hK17 _ _<|wp_ret ?_
   try simp only [Exit.then,Exit.inBlock]
   refine Bn (v:=π g) (Cf h43 rfl rfl) h43.defs ?_
   have s11:=s10.ran_map 0 rfl
   have s12:Sep _ [AM KN mk A.B (fun s=>elA A (Ai F.E k s)),nodO F A (k::T),pmC pV cb (c2126.L A),Av (c2126.fs F) c2126.A,Ch.many R]:=s11
   rw [hmk] at s12
   have s13:=Sep.mendO (T:=T) hk hd hT s12
   have hi2:c2126.K.idxOf k=c.K.length:=hk2116.og_inj (c2126.og_idx hkm123).1 hl118 ((c2126.og_idx hkm123).2.trans ho119.symm)
   exact ⟨c2126,by rw [hi2,hg120],Sep.tail_un (xs:=[_,_,_]) s13,hk2116,he117.fin (Come.done hcm122 hk2116 hF ho119 hlh128),hkm123,fun _=>ho119⟩
  ·skip
   rintro a3 w8 p145 u146 cnt149 h44 s148x okp145 hlp145 hgp145 hnp145 hep145
   refine hKa129 _ _ ?_
   have s14:Sep w8 [Ir KN mk r1 A.B (fun s=>elA A (Ai F.E k s)) (fun j=>left124 j&&!decide (j=p145)) cnt149,nodO F A (k::T),pmC pV cb (c2126.L A),Av (c2126.fs F) c2126.A,Ch.many R]:=s148x;clear s148x
   obtain ⟨m1,hm1,hu154⟩:=Mj hgp145;subst hu154;have hm153l:=(FsC.look_lt hF hm1).1
   refine mv h44 rfl fun _ h45=>h45.sn [52,50,5,4,0,1,6] rfl fun h46=>hK15 _ _<|sq fun _ hK18=>wcT h46 rfl rfl<|h46.sk [50,5,4,0,1,6] rfl fun h47=>wp_skip<|hK18 _ _<|wp_block ?_
   refine sqr fun _ hK19=>sw1 h47 rfl (v:=.tuple #[.string p145,π (A.ad m1)]) (QZ h47 rfl rfl hep145) fun _ h48=>mvs 4 h48 rfl fun _ h49=>h49.sn [8,7,50,5,4,0,1,6] rfl fun h50=>hK19 _ _ ?_
   have s15:=s14.drew
   refine wp_region_held_drew (S:=fun w'=>Sep w' [Ir KN mk r1 A.B (fun s=>elA A (Ai F.E k s)) (fun j=>left124 j&&!decide (j=p145)) cnt149,Ch.many R]) κ (s15.pk [0,4] rfl) (fun hq1=>?_)
   refine tv1 hq1 h50 0 rfl rfl (v:=π g) (fun w1 _=>(Ap h50 rfl rfl) w1) fun _ h51=>?_
   refine tv1 hq1 h51 1 rfl rfl (v:=π g) (fun w1 _=>(Cu h51 rfl rfl) w1) fun _ h52=>?_
   refine tv1 hq1 h52 2 rfl rfl (v:=.pointer (some ⟨g,3,none⟩)) (fun w1 _=>(rfa h52 rfl rfl (fun w=>AF g 0 w)) w1) fun _ h53=>?_
   refine tv1 hq1 h53 4 rfl rfl (v:=.string p145) (fun w1 _=>(Ap h53 rfl rfl) w1) fun _ h54=>?_
   refine tv1 hq1 h54 5 rfl rfl (v:=π (A.ad m1)) (fun w1 _=>(Ap h54 rfl rfl) w1) fun _ h55=>?_
   refine tv1 hq1 h55 6 rfl rfl (v:=.map (some cb)) (fun w1 _=>(Ap h55 rfl rfl) w1) fun _ h56=>?_
   refine wpAnyH_ready (rs:=[3,7]) κ (by simp) (toc rfl (wn rfl) (fun K3 hK20=>?_) (toc rfl (wn rfl) (fun K3 hK20=>?_) AllReadyH.nil))
   ·skip
    refine Br h56 rfl rfl rfl (v:=.map (some gm71)) (w':=w8.drew) ((rld h56 rfl rfl (Mh (c:=c2126) (q:=c.K.length) (s15.get 3 rfl:NdP _ _ _) hl118 hd2 hg120 hgm121 υ95 rfl))) fun _ h57=>hK20 _ _ (s15.pk [0,4] rfl) fun hq2=>?_
    refine to_ 7 rfl (wn rfl) κ fun _ hK21=>CS h57 rfl rfl rfl (xs:=[.tmp 61,.tmp 62]) rfl El rfl (vs:=[π (A.ad m1),.map (some cb)]) rfl (args:=#[π (A.ad m1),.map (some cb)]) rfl (ih (c:=c2126) (T:=k::T) (k:=m1) (by have:=hl118;omega) hk2116 hm153l (CpOk.underT hT0 he117 hkm123) (s15.pk [1,2,3,0,4] rfl)) fun _ v1 w9 r2 h58=>?_
    obtain ⟨cx191,rfl,s16,hA196,hB196,hC1,hD196⟩:=r2
    have q199:c2126.K.length≤cx191.K.length:=Ext.le hB196
    have q200:c.K.length<cx191.K.length:=Nat.lt_of_lt_of_le hl118 q199
    have q201:cx191.og c.K.length=k:=(Ext.og hB196 hl118).trans ho119
    have q202:F.dir (cx191.og c.K.length)=true:=by rw [q201];exact hd
    have q203:cx191.A.ad c.K.length=g:=(Ext.ad hB196 _ hl118).trans hg120
    have q204:cx191.A.mb c.K.length=gm71:=(Ext.mb hB196 _ hl118).trans hgm121
    have q205:Ai cx191.E c.K.length p145=none:=(Ext.E hB196 _ hl118 _).trans ((hcm122 _ okp145).1 hlp145)
    have q206:Ext1 F c cx191:=Ext1.step he117 hB196 hl118
    have q207:Come F k c.K.length cx191 _:=Come.step hcm122 hB196 hl118
    have q208:k∈cx191.K:=Ext.mem hB196 hkm123
    refine hK21 _ _ (s16.pk [3,4] rfl) fun hq3=>?_
    refine to_ 8 rfl (wn rfl) κ fun _ hK22=>Su (F:=F) (A:=A) (c:=cx191) (q:=c.K.length) (gm:=gm71) (m:=cx191.K.idxOf m1) h58 rfl rfl rfl hA196 hz2 s16 2 rfl q200 q202 q204 rfl rfl rfl okp145 q205 (cs':=[nodO F A (k::T),pmC pV cb (cx191.L A),Av ((cx191.put c.K.length p145 (cx191.K.idxOf m1)).fs F) (cx191.put c.K.length p145 (cx191.K.idxOf m1)).A,Ir KN mk r1 A.B (fun s=>elA A (Ai F.E k s)) (fun j=>left124 j&&!decide (j=p145)) cnt149,Ch.many R]) rfl fun _ w10 h59 s17=>?_
    refine hK22 _ _ (s17.pk [3,4] rfl) fun hq4=>h59.sk [8,7,50,5,4,0,1,6] rfl fun h60=>?_
    refine wpAnyH_done κ ?_ _
    exact hK14 (fun j=>left124 j&&!decide (j=p145)) cnt149 (cx191.put c.K.length p145 (cx191.K.idxOf m1)) _ _ ⟨h60.subs rfl,(s17.pk [3,0,1,2,4] rfl),CpOk.put hA196 q200 (CpOk.mi cx191 hC1) q205 (by rw [q201];exact hm1),Ext1.put q206 q205,q200,q201,q203,q204,Come.put q207 okp145 hlp145 hm1 hC1,q208⟩ (hnp145)
   ·skip
    refine CS h56 rfl rfl rfl (xs:=[.tmp 61,.tmp 62]) rfl El rfl (vs:=[π (A.ad m1),.map (some cb)]) rfl (args:=#[π (A.ad m1),.map (some cb)]) rfl (ih (c:=c2126) (T:=k::T) (k:=m1) (by have:=hl118;omega) hk2116 hm153l (CpOk.underT hT0 he117 hkm123) (s15.pk [1,2,3,0,4] rfl)) fun _ v2 w11 r3 h61=>?_
    obtain ⟨cx217,rfl,s18,hA222,hB222,hC2,hD222⟩:=r3
    have q224:c2126.K.length≤cx217.K.length:=Ext.le hB222
    have q225:c.K.length<cx217.K.length:=Nat.lt_of_lt_of_le hl118 q224
    have q226:cx217.og c.K.length=k:=(Ext.og hB222 hl118).trans ho119
    have q227:F.dir (cx217.og c.K.length)=true:=by rw [q226];exact hd
    have q228:cx217.A.ad c.K.length=g:=(Ext.ad hB222 _ hl118).trans hg120
    have q229:cx217.A.mb c.K.length=gm71:=(Ext.mb hB222 _ hl118).trans hgm121
    have q230:Ai cx217.E c.K.length p145=none:=(Ext.E hB222 _ hl118 _).trans ((hcm122 _ okp145).1 hlp145)
    have q231:Ext1 F c cx217:=Ext1.step he117 hB222 hl118
    have q232:Come F k c.K.length cx217 _:=Come.step hcm122 hB222 hl118
    have q233:k∈cx217.K:=Ext.mem hB222 hkm123
    refine hK20 _ _ (s18.pk [3,4] rfl) fun hq5=>?_
    refine to_ 3 rfl (wn rfl) κ fun _ hK23=>Br h61 rfl rfl rfl (v:=.map (some gm71)) (w':=w11) ((rld h61 rfl rfl (Mh (c:=cx217) (q:=c.K.length) (s18.get 2 rfl:NdP _ _ _) q225 q227 q228 q229 υ95 rfl))) fun _ h62=>hK23 _ _ (s18.pk [3,4] rfl) fun hq6=>?_
    refine to_ 8 rfl (wn rfl) κ fun _ hK24=>Su (F:=F) (A:=A) (c:=cx217) (q:=c.K.length) (gm:=gm71) (m:=cx217.K.idxOf m1) h62 rfl rfl rfl hA222 hz2 s18 2 rfl q225 q227 q229 rfl rfl rfl okp145 q230 (cs':=[nodO F A (k::T),pmC pV cb (cx217.L A),Av ((cx217.put c.K.length p145 (cx217.K.idxOf m1)).fs F) (cx217.put c.K.length p145 (cx217.K.idxOf m1)).A,Ir KN mk r1 A.B (fun s=>elA A (Ai F.E k s)) (fun j=>left124 j&&!decide (j=p145)) cnt149,Ch.many R]) rfl fun _ w12 h63 s19=>?_
    refine hK24 _ _ (s19.pk [3,4] rfl) fun hq7=>h63.sk [8,7,50,5,4,0,1,6] rfl fun h64=>?_
    refine wpAnyH_done κ ?_ _
    exact hK14 (fun j=>left124 j&&!decide (j=p145)) cnt149 (cx217.put c.K.length p145 (cx217.K.idxOf m1)) _ _ ⟨h64.subs rfl,(s19.pk [3,0,1,2,4] rfl),CpOk.put hA222 q225 (CpOk.mi cx217 hC2) q230 (by rw [q226];exact hm1),Ext1.put q231 q230,q225,q226,q228,q229,Come.put q232 okp145 hlp145 hm1 hC2,q233⟩ (hnp145)
 have s20:=hS.drew
 refine wp_region_held_drew (S:=fun w'=>Sep w' [nodO F A T,pmC pV cb (c.L A),Av (c.fs F) c.A,Ch.many R]) κ s20 (fun hq8=>?_)
 refine tv1 hq8 h10 0 rfl rfl (v:=π (A.ad k)) (fun w1 _=>(Ap h10 rfl rfl) w1) fun _ h65=>?_
 refine tv1 hq8 h65 1 rfl rfl (v:=π (A.ad k)) (fun w1 _=>(Cu h65 rfl rfl) w1) fun _ h66=>?_
 refine tv1 hq8 h66 2 rfl rfl (v:=π (A.ad k)) (fun w1 _=>(rfa h66 rfl rfl (fun w=>Ay (A.ad k) 0 w)) w1) fun _ h67=>?_
 refine tv1 hq8 h67 4 rfl rfl (v:=π (A.ad k)) (fun w1 _=>(Ap h67 rfl rfl) w1) fun _ h68=>?_
 refine tv1 hq8 h68 5 rfl rfl (v:=π (A.ad k)) (fun w1 _=>(Cu h68 rfl rfl) w1) fun _ h69=>?_
 refine tv1 hq8 h69 6 rfl rfl (v:=.pointer (some ⟨(A.ad k),1,none⟩)) (fun w1 _=>(rfa h69 rfl rfl (fun w=>Bk (A.ad k) 0 w)) w1) fun _ h70=>?_
 refine tv1 hq8 h70 8 rfl rfl (v:=π (A.ad k)) (fun w1 _=>(Ap h70 rfl rfl) w1) fun _ h71=>?_
 refine tv1 hq8 h71 9 rfl rfl (v:=π (A.ad k)) (fun w1 _=>(Cu h71 rfl rfl) w1) fun _ h72=>?_
 refine tv1 hq8 h72 10 rfl rfl (v:=.pointer (some ⟨(A.ad k),2,none⟩)) (fun w1 _=>(rfa h72 rfl rfl (fun w=>Bl (A.ad k) 0 w)) w1) fun _ h73=>?_
 refine wpAnyH_ready (rs:=[3,7,11]) κ (by simp) (toc rfl (wn rfl) (fun K4 hK25=>?_) (toc rfl (wn rfl) (fun K4 hK25=>?_) (toc rfl (wn rfl) (fun K4 hK25=>?_) AllReadyH.nil)))
 ·skip
  refine Br h73 rfl rfl rfl (v:=ν (AP (F.dir k))) (w':=w.drew) ((rld h73 rfl rfl (NdO.ld (k:=k) (s20.get 0 rfl:NdO _ _ _ _) hk υ3 rfl rfl))) fun _ h74=>hK25 _ _ s20 fun hq9=>?_
  refine wpAnyH_ready (rs:=[7,11]) κ (by simp) (toc rfl (wn rfl) (fun K5 hK26=>?_) (toc rfl (wn rfl) (fun K5 hK26=>?_) AllReadyH.nil))
  ·skip
   refine Br h74 rfl rfl rfl (v:=ν (AR F A k)) (w':=w.drew) ((rld h74 rfl rfl (NdO.ld (k:=k) (s20.get 0 rfl:NdO _ _ _ _) hk υ3 rfl rfl))) fun _ h75=>hK26 _ _ s20 fun hq10=>?_
   refine to_ 11 rfl (wn rfl) κ fun _ hK27=>Br h75 rfl rfl rfl (v:=σ ((F.at k).data)) (w':=w.drew) ((rld h75 rfl rfl (NdO.ld (k:=k) (s20.get 0 rfl:NdO _ _ _ _) hk υ9 rfl rfl))) fun _ h76=>hK27 _ _ s20 fun hq11=>?_
   refine tv1 hq11 h76 12 rfl rfl (v:=.agg #[ν (AP (F.dir k)),ν (AR F A k),σ ((F.at k).data),.map none]) (fun w1 _=>(CP h76 (xs:=[(0,.tmp 18),(1,.tmp 22),(2,.tmp 26)]) rfl (vs:=[(0,ν (AP (F.dir k))),(1,ν (AR F A k)),(2,σ ((F.at k).data))]) rfl (fun w=>κ)) w1) fun _ h77=>?_
   refine to_ 13 rfl (wn rfl) κ fun _ hK28=>Cv h77 rfl rfl rfl rfl rfl (z:=[ν (AP (F.dir k)),ν (AR F A k),σ ((F.at k).data),.map none]) rfl s20 fun _ g1 w13 h78 s21 _ _=>?_
   refine hK28 _ _ (s21.pk [1,2,3,4] rfl) fun hq12=>?_
   refine tv1 hq12 h78 14 rfl rfl (v:=π g1) (fun w1 _=>(BJ h78 rfl rfl) w1) fun _ h79=>?_
   refine h79.sk [6,5,4,0,1] rfl fun h80=>?_
   refine wpAnyH_done κ ?_ _
   exact hJ25 g1 _ _ (h80.subs rfl) s21 
  ·skip
   refine Br h74 rfl rfl rfl (v:=σ ((F.at k).data)) (w':=w.drew) ((rld h74 rfl rfl (NdO.ld (k:=k) (s20.get 0 rfl:NdO _ _ _ _) hk υ9 rfl rfl))) fun _ h81=>hK26 _ _ s20 fun hq13=>?_
   refine to_ 7 rfl (wn rfl) κ fun _ hK29=>Br h81 rfl rfl rfl (v:=ν (AR F A k)) (w':=w.drew) ((rld h81 rfl rfl (NdO.ld (k:=k) (s20.get 0 rfl:NdO _ _ _ _) hk υ3 rfl rfl))) fun _ h82=>hK29 _ _ s20 fun hq14=>?_
   refine tv1 hq14 h82 12 rfl rfl (v:=.agg #[ν (AP (F.dir k)),ν (AR F A k),σ ((F.at k).data),.map none]) (fun w1 _=>(CP h82 (xs:=[(0,.tmp 18),(1,.tmp 22),(2,.tmp 26)]) rfl (vs:=[(0,ν (AP (F.dir k))),(1,ν (AR F A k)),(2,σ ((F.at k).data))]) rfl (fun w=>κ)) w1) fun _ h83=>?_
   refine to_ 13 rfl (wn rfl) κ fun _ hK30=>Cv h83 rfl rfl rfl rfl rfl (z:=[ν (AP (F.dir k)),ν (AR F A k),σ ((F.at k).data),.map none]) rfl s20 fun _ g2 w14 h84 s22 _ _=>?_
   refine hK30 _ _ (s22.pk [1,2,3,4] rfl) fun hq15=>?_
   refine tv1 hq15 h84 14 rfl rfl (v:=π g2) (fun w1 _=>(BJ h84 rfl rfl) w1) fun _ h85=>?_
   refine h85.sk [6,5,4,0,1] rfl fun h86=>?_
   refine wpAnyH_done κ ?_ _
   exact hJ25 g2 _ _ (h86.subs rfl) s22 
 ·skip
  refine Br h73 rfl rfl rfl (v:=ν (AR F A k)) (w':=w.drew) ((rld h73 rfl rfl (NdO.ld (k:=k) (s20.get 0 rfl:NdO _ _ _ _) hk υ3 rfl rfl))) fun _ h87=>hK25 _ _ s20 fun hq16=>?_
  refine wpAnyH_ready (rs:=[3,11]) κ (by simp) (toc rfl (wn rfl) (fun K6 hK31=>?_) (toc rfl (wn rfl) (fun K6 hK31=>?_) AllReadyH.nil))
  ·skip
   refine Br h87 rfl rfl rfl (v:=ν (AP (F.dir k))) (w':=w.drew) ((rld h87 rfl rfl (NdO.ld (k:=k) (s20.get 0 rfl:NdO _ _ _ _) hk υ3 rfl rfl))) fun _ h88=>hK31 _ _ s20 fun hq17=>?_
   refine to_ 11 rfl (wn rfl) κ fun _ hK32=>Br h88 rfl rfl rfl (v:=σ ((F.at k).data)) (w':=w.drew) ((rld h88 rfl rfl (NdO.ld (k:=k) (s20.get 0 rfl:NdO _ _ _ _) hk υ9 rfl rfl))) fun _ h89=>hK32 _ _ s20 fun hq18=>?_
   refine tv1 hq18 h89 12 rfl rfl (v:=.agg #[ν (AP (F.dir k)),ν (AR F A k),σ ((F.at k).data),.map none]) (fun w1 _=>(CP h89 (xs:=[(0,.tmp 18),(1,.tmp 22),(2,.tmp 26)]) rfl (vs:=[(0,ν (AP (F.dir k))),(1,ν (AR F A k)),(2,σ ((F.at k).data))]) rfl (fun w=>κ)) w1) fun _ h90=>?_
   refine to_ 13 rfl (wn rfl) κ fun _ hK33=>Cv h90 rfl rfl rfl rfl rfl (z:=[ν (AP (F.dir k)),ν (AR F A k),σ ((F.at k).data),.map none]) rfl s20 fun _ g3 w15 h91 s23 _ _=>?_
   refine hK33 _ _ (s23.pk [1,2,3,4] rfl) fun hq19=>?_
   refine tv1 hq19 h91 14 rfl rfl (v:=π g3) (fun w1 _=>(BJ h91 rfl rfl) w1) fun _ h92=>?_
   refine h92.sk [6,5,4,0,1] rfl fun h93=>?_
   refine wpAnyH_done κ ?_ _
   exact hJ25 g3 _ _ (h93.subs rfl) s23 
  ·skip
   refine Br h87 rfl rfl rfl (v:=σ ((F.at k).data)) (w':=w.drew) ((rld h87 rfl rfl (NdO.ld (k:=k) (s20.get 0 rfl:NdO _ _ _ _) hk υ9 rfl rfl))) fun _ h94=>hK31 _ _ s20 fun hq20=>?_
   refine to_ 3 rfl (wn rfl) κ fun _ hK34=>Br h94 rfl rfl rfl (v:=ν (AP (F.dir k))) (w':=w.drew) ((rld h94 rfl rfl (NdO.ld (k:=k) (s20.get 0 rfl:NdO _ _ _ _) hk υ3 rfl rfl))) fun _ h95=>hK34 _ _ s20 fun hq21=>?_
   refine tv1 hq21 h95 12 rfl rfl (v:=.agg #[ν (AP (F.dir k)),ν (AR F A k),σ ((F.at k).data),.map none]) (fun w1 _=>(CP h95 (xs:=[(0,.tmp 18),(1,.tmp 22),(2,.tmp 26)]) rfl (vs:=[(0,ν (AP (F.dir k))),(1,ν (AR F A k)),(2,σ ((F.at k).data))]) rfl (fun w=>κ)) w1) fun _ h96=>?_
   refine to_ 13 rfl (wn rfl) κ fun _ hK35=>Cv h96 rfl rfl rfl rfl rfl (z:=[ν (AP (F.dir k)),ν (AR F A k),σ ((F.at k).data),.map none]) rfl s20 fun _ g4 w16 h97 s24 _ _=>?_
   refine hK35 _ _ (s24.pk [1,2,3,4] rfl) fun hq22=>?_
   refine tv1 hq22 h97 14 rfl rfl (v:=π g4) (fun w1 _=>(BJ h97 rfl rfl) w1) fun _ h98=>?_
   refine h98.sk [6,5,4,0,1] rfl fun h99=>?_
   refine wpAnyH_done κ ?_ _
   exact hJ25 g4 _ _ (h99.subs rfl) s24 
 ·skip
  refine Br h73 rfl rfl rfl (v:=σ ((F.at k).data)) (w':=w.drew) ((rld h73 rfl rfl (NdO.ld (k:=k) (s20.get 0 rfl:NdO _ _ _ _) hk υ9 rfl rfl))) fun _ h100=>hK25 _ _ s20 fun hq23=>?_
  refine wpAnyH_ready (rs:=[3,7]) κ (by simp) (toc rfl (wn rfl) (fun K7 hK36=>?_) (toc rfl (wn rfl) (fun K7 hK36=>?_) AllReadyH.nil))
  ·skip
   refine Br h100 rfl rfl rfl (v:=ν (AP (F.dir k))) (w':=w.drew) ((rld h100 rfl rfl (NdO.ld (k:=k) (s20.get 0 rfl:NdO _ _ _ _) hk υ3 rfl rfl))) fun _ h101=>hK36 _ _ s20 fun hq24=>?_
   refine to_ 7 rfl (wn rfl) κ fun _ hK37=>Br h101 rfl rfl rfl (v:=ν (AR F A k)) (w':=w.drew) ((rld h101 rfl rfl (NdO.ld (k:=k) (s20.get 0 rfl:NdO _ _ _ _) hk υ3 rfl rfl))) fun _ h102=>hK37 _ _ s20 fun hq25=>?_
   refine tv1 hq25 h102 12 rfl rfl (v:=.agg #[ν (AP (F.dir k)),ν (AR F A k),σ ((F.at k).data),.map none]) (fun w1 _=>(CP h102 (xs:=[(0,.tmp 18),(1,.tmp 22),(2,.tmp 26)]) rfl (vs:=[(0,ν (AP (F.dir k))),(1,ν (AR F A k)),(2,σ ((F.at k).data))]) rfl (fun w=>κ)) w1) fun _ h103=>?_
   refine to_ 13 rfl (wn rfl) κ fun _ hK38=>Cv h103 rfl rfl rfl rfl rfl (z:=[ν (AP (F.dir k)),ν (AR F A k),σ ((F.at k).data),.map none]) rfl s20 fun _ g5 w17 h104 s25 _ _=>?_
   refine hK38 _ _ (s25.pk [1,2,3,4] rfl) fun hq26=>?_
   refine tv1 hq26 h104 14 rfl rfl (v:=π g5) (fun w1 _=>(BJ h104 rfl rfl) w1) fun _ h105=>?_
   refine h105.sk [6,5,4,0,1] rfl fun h106=>?_
   refine wpAnyH_done κ ?_ _
   exact hJ25 g5 _ _ (h106.subs rfl) s25 
  ·skip
   refine Br h100 rfl rfl rfl (v:=ν (AR F A k)) (w':=w.drew) ((rld h100 rfl rfl (NdO.ld (k:=k) (s20.get 0 rfl:NdO _ _ _ _) hk υ3 rfl rfl))) fun _ h107=>hK36 _ _ s20 fun hq27=>?_
   refine to_ 3 rfl (wn rfl) κ fun _ hK39=>Br h107 rfl rfl rfl (v:=ν (AP (F.dir k))) (w':=w.drew) ((rld h107 rfl rfl (NdO.ld (k:=k) (s20.get 0 rfl:NdO _ _ _ _) hk υ3 rfl rfl))) fun _ h108=>hK39 _ _ s20 fun hq28=>?_
   refine tv1 hq28 h108 12 rfl rfl (v:=.agg #[ν (AP (F.dir k)),ν (AR F A k),σ ((F.at k).data),.map none]) (fun w1 _=>(CP h108 (xs:=[(0,.tmp 18),(1,.tmp 22),(2,.tmp 26)]) rfl (vs:=[(0,ν (AP (F.dir k))),(1,ν (AR F A k)),(2,σ ((F.at k).data))]) rfl (fun w=>κ)) w1) fun _ h109=>?_
   refine to_ 13 rfl (wn rfl) κ fun _ hK40=>Cv h109 rfl rfl rfl rfl rfl (z:=[ν (AP (F.dir k)),ν (AR F A k),σ ((F.at k).data),.map none]) rfl s20 fun _ g6 w18 h110 s26 _ _=>?_
   refine hK40 _ _ (s26.pk [1,2,3,4] rfl) fun hq29=>?_
   refine tv1 hq29 h110 14 rfl rfl (v:=π g6) (fun w1 _=>(BJ h110 rfl rfl) w1) fun _ h111=>?_
   refine h111.sk [6,5,4,0,1] rfl fun h112=>?_
   refine wpAnyH_done κ ?_ _
   exact hJ25 g6 _ _ (h112.subs rfl) s26 
theorem JU {F:FsM} {A:AdM} {cb:Nat} {δ:Nat→Int} (hF:FsC F δ) (hz:SmF F):∀ (n:Nat) {w:World} {c:Cp} {k:Nat} {T:List Nat} {R:List Ch},F.N.length-c.K.length≤n→CpOk F A c→k<F.N.length→(∀ t∈T,t∈c.K)→Sep w ([nodO F A T,pmC pV cb (c.L A),Av (c.fs F) c.A]++R)→CallsR Tryz.prog 27 #[π (A.ad k),.map (some cb)] w (fun v w'=>∃ c':Cp,v=π (c'.A.ad (c'.K.idxOf k))∧Sep w' ([nodO F A T,pmC pV cb (c'.L A),Av (c'.fs F) c'.A]++R)∧CpOk F A c'∧Ext F c c'∧k∈c'.K∧(¬ k∈c.K→c'.og c.K.length=k))
 | 0,w,c,k,T,R,hn,hc,hk,hT,hS=>by
  by_cases hm:k∈c.K
  ·exact Ln hS hF hz hc hk hT hm
  ·have:=hc.room hk hm;omega
 | n+1,w,c,k,T,R,hn,hc,hk,hT,hS=>by
  by_cases hm:k∈c.K
  ·exact Ln hS hF hz hc hk hT hm
  ·cases hd:F.dir k with
   | false=>exact OM hS hF hz hc hk hT hm hd
   | true=>exact OL hS hF hz hc hk hT hm hd hn (fun h1 h2 h3 h4 h5=>JU hF hz n h1 h2 h3 h4 h5)
end
section
def cpE:Cp:=⟨[],[],⟨fun _=>0,fun _=>0,fun _=>0,0,0⟩⟩
theorem CpOk.startC (F:FsM) (A:AdM):CpOk F A cpE:=⟨List.nodup_nil,fun k h=>(by cases h),List.Pairwise.nil,fun x h=>(by cases h),rfl,fun p h=>(by cases h)⟩
theorem Sep.startC {w:World} {R:List Ch} (F:FsM) (h:Sep w R):Sep w (Av (cpE.fs F) cpE.A::R):=
 Sep.cons (c:=Av (cpE.fs F) cpE.A) (show NdP _ _ w from ⟨fun k h=>(by cases h),fun k h=>(by cases h),fun j k h=>(by cases h),fun j k h=>(by cases h)⟩) h (fun i d e b hb=>by obtain ⟨k,hk,_⟩:=hb;cases hk)
structure ComeO (F:FsM) (c:Cp) (g2:Int×Int→Option (Option Nat)) (left:Int×Int→Bool) (n:Nat):Prop where
 a:∀ p,wfD p→left p=true→g2 p=none
 b:∀ p,wfD p→Az F.O p.1 p.2=none→g2 p=none
 c:∀ p,wfD p→left p=false→∀ m,Az F.O p.1 p.2=some m→m∈c.K∧g2 p=some (some (c.A.ad (c.K.idxOf m)))
 v:∃ V:List (Int×Int),V.Nodup∧V.length=n∧∀ p∈V,left p=false∧p∈F.O.map (fun o=>(o.cl,o.fd))
theorem ComeO.start (F:FsM) (A:AdM) (c:Cp):ComeO F c (fun _=>none) (fun i=>(opG F A i).isSome) 0 where
 a _ _ _:=rfl
 b _ _ _:=rfl
 c p _ hl m hm:=by unfold opG elA at hl;rw [hm] at hl;cases hl
 v:=⟨[],List.nodup_nil,rfl,fun p h=>(by cases h)⟩
theorem ComeO.small {F:FsM} {c:Cp} {g2:Int×Int→Option (Option Nat)} {left:Int×Int→Bool} {n:Nat} (h:ComeO F c g2 left n) (hz:SmF F):n<maxLen:=by
 obtain ⟨V,h1,h2,h3⟩:=h.v
 have z:=DA h1 (fun p hp=>(h3 p hp).2)
 rw [List.length_map,h2] at z
 have:=hz.2.2
 have h3:1000<maxLen:=by decide +kernel
 omega
theorem ComeO.step {F:FsM} {c c':Cp} {g2:Int×Int→Option (Option Nat)} {left:Int×Int→Bool} {n:Nat} (h:ComeO F c g2 left n) (e:Ext F c c'):ComeO F c' g2 left n where
 a:=h.a
 b:=h.b
 c p hp hl m hm:=by
  obtain ⟨h1,h2⟩:=h.c p hp hl m hm
  exact ⟨e.mem h1,by rw [h2,e.idx h1,e.ad _ (c.og_idx h1).1]⟩
 v:=h.v
theorem ComeO.put {F:FsM} {c:Cp} {g2:Int×Int→Option (Option Nat)} {left:Int×Int→Bool} {n:Nat} (h:ComeO F c g2 left n) {p:Int×Int} (hp:wfD p) (hl:left p=true) {m:Nat} (hm:Az F.O p.1 p.2=some m) (hk:m∈c.K):ComeO F c (HY g2 p (some (some (c.A.ad (c.K.idxOf m))))) (fun j=>left j&&!decide (j=p)) (n+1) where
 a q hq hlq:=by
  by_cases e:q=p
  ·subst e;simp at hlq
  ·rw [GE _ _ e];exact h.a q hq (by simpa [e] using hlq)
 b q hq hn:=by
  by_cases e:q=p
  ·subst e;rw [hm] at hn;cases hn
  ·rw [GE _ _ e];exact h.b q hq hn
 c q hq hlq m' hm':=by
  by_cases e:q=p
  ·subst e;rw [hm] at hm';cases hm';exact ⟨hk,Gq _ _ _⟩
  ·rw [GE _ _ e];exact h.c q hq (by simpa [e] using hlq) m' hm'
 v:=by
  obtain ⟨V,h1,h2,h3⟩:=h.v
  refine ⟨p::V,List.nodup_cons.2 ⟨fun hv=>(by rw [(h3 p hv).1] at hl;cases hl),h1⟩,by rw [List.length_cons,h2],fun q hq=>?_⟩
  rcases List.mem_cons.1 hq with rfl | hq
  ·obtain ⟨o,ho,e1,e2,_⟩:=Gf hm
   exact ⟨by simp,List.mem_map.2 ⟨o,ho,Prod.ext e1 e2⟩⟩
  ·exact ⟨by rw [(h3 q hq).1];rfl,(h3 q hq).2⟩
theorem Em (args:Array Value) (w:World):(callFunc 27 args).run Tryz.prog w=.ok (.enter 27 args) w:=by
 have h:=Tryz.func27
 go_simp
theorem SC {w:World} {cf ob:Nat} {F:FsM} {A:AdM} {R:List Ch} {δ:Nat→Int} (hS0:Sep w (cP cf ob F A++R)) (hF:FsC F δ) (hz:SmF F) :
  CallsR Tryz.prog 13 #[π cf] w (fun v w'=>∃ gf gb n g2 c r0,v=π gf∧Sep w' ([Av F A,Ah cf 65 [π (A.ad 0),.map (some ob)],AM KO ob A.C (opG F A),Ah gf 65 [π r0,.map (some gb)],Av (c.fs F) c.A,AM KO gb n g2]++R)∧CpOk F A c∧Ext F cpE c∧((0∈c.K∧c.og 0=0)∧r0=c.A.ad (c.K.idxOf 0))∧∃ left,ComeO F c g2 left n∧∀ p,wfD p→left p=false):=by
 have hn0:=hF.n0.1
 have hS1:Sep w (cP cf ob F A++[Ch.many R]):=Sep.tail_many hS0
 have hS:Sep w [nodO F A [],Ah cf 65 [π (A.ad 0),.map (some ob)],AM KO ob A.C (opG F A),Ch.many R]:=Sep.nodO (hS1.pk [1,0,2,3] rfl);clear hS0 hS1
 refine AB Tryz.func13 rfl (N:=36) Tryz.ntmps13 (by show 1≤36;decide) [(0,π cf)] rfl fun _ h1=>sqr fun _ hK3=>mv h1 rfl fun _ h4=>wpList_nil<|hK3 _ _<|sqr fun _ hK6=>so (wn rfl) fun _ hK1=>Ru (av:=pV) h4 rfl rfl rfl rfl hS fun _ cb7 w2 h8 s1=>hK1 _ _ ?_
 refine mv h8 rfl fun _ h2=>h2.sn [3,2,0] rfl fun h3=>hK6 _ _<|sq fun _ hK2=>?_
 have s2:Sep w2 [Av (cpE.fs F) cpE.A,pmC pV cb7 (cpE.L A),nodO F A [],Ah cf 65 [π (A.ad 0),.map (some ob)],AM KO ob A.C (opG F A),Ch.many R]:=Sep.startC F s1
 have hc0:CpOk F A cpE:=CpOk.startC F A
 refine wp_region_lit<|mvs 2 h3 rfl fun _ h5=>fav h5 rfl (DD _ _) fun _ h6=>ldv h6 s2 3 υ62 rfl rfl rfl rfl fun _ h7=>mv h7 rfl fun _ h9=>cl h9 rfl Em (JU (cb:=cb7) hF hz F.N.length (c:=cpE) (T:=[]) (k:=0) ω hc0 hF.n0.1 (fun t h=>by cases h) (s2.pk [2,1,0,3,4,5] rfl)) fun _ v1 w3 r1 h10=>?_
 obtain ⟨cx28,rfl,s3,hA33,hB33,hC1,hD33⟩:=r1
 have hog:cx28.og 0=0:=hD33 (fun q=>by cases q)
 refine so (wn rfl) fun _ hK4=>KX KO h10 rfl rfl rfl rfl s3 fun _ b1 w4 h11 s4 _ _=>hK4 _ _ ?_
 refine bu h11 (v:=.agg #[π (cx28.A.ad (cx28.K.idxOf 0)),.map (some b1)]) rfl (fun w=>κ) fun _ h12=>so (wn rfl) fun _ hK5=>Cv h12 rfl rfl rfl rfl rfl (z:=[π (cx28.A.ad (cx28.K.idxOf 0)),.map (some b1)]) rfl s4 fun _ g1 w5 h13 s5 _ _=>hK5 _ _ ?_
 refine mv h13 rfl fun _ h14=>h14.sn [4,3,2,0] rfl fun h15=>hK2 _ _<|sq fun _ hK7=>sqr fun _ hK8=>mvs 2 h15 rfl fun _ h16=>fav h16 rfl (BQ _ _) fun _ h17=>ldv h17 s5 5 υ63 rfl rfl rfl rfl fun _ h18=>so (wn rfl) fun _ hK9=>Rw (M:=KO) h18 rfl rfl rfl rfl rfl s5 6 rfl rfl fun _ r2 w6 cnt68 h19 s6 _=>hK9 _ _ ?_
 have s7:=s6;clear s6
 refine h19.sn [21,4,3,2,0] rfl fun h20=>hK8 _ _<|wp_block ?_
 refine Rr (fun (left:Int×Int→Bool) (cnt:Nat) (c2:Cp) (n:Nat) (g2:Int×Int→Option (Option Nat)) a' w'=>Kn 36 [(21,π r2),(4,π g1),(3,.map (some cb7)),(2,.pointer none),(0,π cf)] a'∧Sep w' [Ir KO ob r2 A.C (opG F A) left cnt,Ah g1 65 [π (cx28.A.ad (cx28.K.idxOf 0)),.map (some b1)],AM KO b1 n g2,nodO F A [],pmC pV cb7 (c2.L A),Av (c2.fs F) c2.A,Ah cf 65 [π (A.ad 0),.map (some ob)],Ch.many R]∧(CpOk F A c2)∧(Ext F cpE c2)∧(ComeO F c2 g2 left n)∧((0∈c2.K∧c2.og 0=0)∧cx28.A.ad (cx28.K.idxOf 0)=c2.A.ad (c2.K.idxOf 0))) (fun (left:Int×Int→Bool) (cnt:Nat) (c2:Cp) (n:Nat) (g2:Int×Int→Option (Option Nat))=>cnt) (fun i=>((opG F A) i).isSome) cnt68 cx28 0 (fun _=>none) ⟨h20.subs rfl,(s7.pk [6,0,1,2,3,4,5,7] rfl),hA33,hB33,ComeO.start F A cx28,⟨⟨hC1,hog⟩,rfl⟩⟩ ?_
 rintro left86 cnt87 c288 n89 g3 a1 w7 ⟨h21,s8,hk282,he83,hcm84,hr85⟩ K1 hK10
 refine sqr fun _ hK11=>so (wn rfl) fun Ka93 hKa93=>St (M:=KO) h21 rfl rfl rfl rfl s8 0 rfl rfl (fun _ h22 hlh92=>hKa93 _ _ ?_) ?_
 ·skip
  refine mv h22 rfl fun _ h23=>h23.sn [23,21,4,3,2,0] rfl fun h24=>hK11 _ _<|sq fun _ hK12=>wcF h24 rfl rfl<|h24.sk [21,4,3,2,0] rfl fun h25=>wp_exit ?_
  refine hK7 _ _ ?_
  refine sqr fun _ hK13=>mv h25 rfl fun _ h26=>h26.sk [35,21,4,3,0] rfl fun h27=>mv h27 rfl fun _ h28=>h28.sn [2,21,4,3,0] rfl fun h29=>hK13 _ _<|wp_ret ?_
  try simp only [Exit.then,Exit.inBlock]
  refine Bn (v:=π g1) (Cf h29 rfl rfl) h29.defs ?_
  have s9:=s8.ran_map 0 rfl
  have s10:Sep _ [nodO F A [],Ah cf 65 [π (A.ad 0),.map (some ob)],AM KO ob A.C (opG F A),Ah g1 65 [π (cx28.A.ad (cx28.K.idxOf 0)),.map (some b1)],Av (c288.fs F) c288.A,AM KO b1 n89 g3,Ch.many R]:=(s9.pk [3,6,0,1,5,2,7] rfl)
  exact ⟨_,_,_,_,_,_,rfl,Sep.tail_un (xs:=[_,_,_,_,_,_]) (Sep.nodO_back s10),hk282,he83,hr85,_,hcm84,hlh92⟩
 ·skip
  rintro a2 w8 p108 u109 cnt112 h30 s111x okp108 hlp108 hgp108 hnp108 hep108
  refine hKa93 _ _ ?_
  have s11:Sep w8 [Ir KO ob r2 A.C (opG F A) (fun j=>left86 j&&!decide (j=p108)) cnt112,Ah g1 65 [π (cx28.A.ad (cx28.K.idxOf 0)),.map (some b1)],AM KO b1 n89 g3,nodO F A [],pmC pV cb7 (c288.L A),Av (c288.fs F) c288.A,Ah cf 65 [π (A.ad 0),.map (some ob)],Ch.many R]:=s111x;clear s111x
  obtain ⟨m1,hm1,hu117⟩:=Mj hgp108;subst hu117;have hm116l:=(FsC.look_fd hF hm1).1
  refine mv h30 rfl fun _ h31=>h31.sn [23,21,4,3,2,0] rfl fun h32=>hK11 _ _<|sq fun _ hK14=>wcT h32 rfl rfl<|h32.sk [21,4,3,2,0] rfl fun h33=>wp_skip<|hK14 _ _<|wp_block ?_
  refine sqr fun _ hK15=>sw1 h33 rfl (v:=.tuple #[.agg #[ν p108.1,ν p108.2],π (A.ad m1)]) (QZ h33 rfl rfl hep108) fun _ h34=>mvs 2 h34 rfl fun _ h35=>so (wn rfl) fun _ hK16=>BB h35 rfl rfl rfl rfl (z:=[ν 0,ν 0]) (fun _=>rfl) s11 fun _ g4 w9 h36 s12 _ _=>hK16 _ _ ?_
  refine stA h36 s12 0 rfl rfl rfl κ rfl rfl rfl rfl fun _ w10 h37 s13 _=>mv h37 rfl fun _ h38=>h38.sn [6,5,21,4,3,2,0] rfl fun h39=>hK15 _ _ ?_
  have s14:=s13.drew
  refine wp_region_held_drew (S:=fun w'=>Sep w' [Ah g4 68 [ν p108.1,ν p108.2],Ir KO ob r2 A.C (opG F A) (fun j=>left86 j&&!decide (j=p108)) cnt112,Ah g1 65 [π (cx28.A.ad (cx28.K.idxOf 0)),.map (some b1)],Ah cf 65 [π (A.ad 0),.map (some ob)],Ch.many R]) κ (s14.pk [0,1,2,7,8] rfl) (fun hq1=>?_)
  refine tv1 hq1 h39 0 rfl rfl (v:=π g1) (fun w1 _=>(Ap h39 rfl rfl) w1) fun _ h40=>?_
  refine tv1 hq1 h40 1 rfl rfl (v:=π g1) (fun w1 _=>(Cu h40 rfl rfl) w1) fun _ h41=>?_
  refine tv1 hq1 h41 2 rfl rfl (v:=.pointer (some ⟨g1,1,none⟩)) (fun w1 _=>(rfa h41 rfl rfl (fun w=>BQ g1 0 w)) w1) fun _ h42=>?_
  refine tv1 hq1 h42 3 rfl rfl (v:=.map (some b1)) (fun w1 hSw=>(rld h42 rfl rfl (ldB υ63 rfl (hSw.get 2 rfl:Blk _ _ _ _) rfl))) fun _ h43=>?_
  refine tv1 hq1 h43 4 rfl rfl (v:=.agg #[ν p108.1,ν p108.2]) (fun w1 hSw=>(rld h43 rfl rfl (ldA υ68 rfl (n:=2) κ (hSw.get 0 rfl:Blk _ _ _ _) rfl rfl))) fun _ h44=>?_
  refine tv1 hq1 h44 5 rfl rfl (v:=π (A.ad m1)) (fun w1 _=>(Ap h44 rfl rfl) w1) fun _ h45=>?_
  refine tv1 hq1 h45 6 rfl rfl (v:=.map (some cb7)) (fun w1 _=>(Ap h45 rfl rfl) w1) fun _ h46=>?_
  refine to_ 7 rfl (wn rfl) κ fun _ hK17=>CS h46 rfl rfl rfl (xs:=[.tmp 32,.tmp 33]) rfl Em rfl (vs:=[π (A.ad m1),.map (some cb7)]) rfl (args:=#[π (A.ad m1),.map (some cb7)]) rfl (JU (cb:=cb7) hF hz F.N.length (c:=c288) (T:=[]) (k:=m1) ω hk282 hm116l (fun t h=>by cases h) (s14.pk [4,5,6,0,1,2,3,7,8] rfl)) fun _ v2 w11 r3 h47=>?_
  obtain ⟨cx164,rfl,s15,hA169,hB169,hC2,hD169⟩:=r3
  refine hK17 _ _ (s15.pk [3,4,5,7,8] rfl) fun hq2=>?_
  refine to_ 8 rfl (wn rfl) κ fun _ hK18=>TF (M:=KO) h47 rfl rfl rfl s15 6 rfl rfl (p:=p108) (u:=some (cx164.A.ad (cx164.K.idxOf m1))) rfl rfl (ComeO.small hcm84 hz) okp108 (cs':=[nodO F A [],pmC pV cb7 (cx164.L A),Av (cx164.fs F) cx164.A,Ah g4 68 [ν p108.1,ν p108.2],Ir KO ob r2 A.C (opG F A) (fun j=>left86 j&&!decide (j=p108)) cnt112,Ah g1 65 [π (cx28.A.ad (cx28.K.idxOf 0)),.map (some b1)],AM KO b1 (n89+1) (HY g3 p108 (some (some (cx164.A.ad (cx164.K.idxOf m1))))),Ah cf 65 [π (A.ad 0),.map (some ob)],Ch.many R]) rfl fun _ w12 h48 s16 _=>?_
  refine hK18 _ _ (s16.pk [3,4,5,7,8] rfl) fun hq3=>h48.sk [6,5,21,4,3,2,0] rfl fun h49=>?_
  refine wpAnyH_done κ ?_ _
  exact hK10 (fun j=>left86 j&&!decide (j=p108)) cnt112 cx164 (n89+1) (HY g3 p108 (some (some (cx164.A.ad (cx164.K.idxOf m1))))) _ _ ⟨h49.subs rfl,(s16.pk [4,5,6,0,1,2,7,8] rfl),hA169,Ext.trans he83 hB169,ComeO.put (ComeO.step hcm84 hB169) okp108 hlp108 hm1 hC2,⟨⟨Ext.mem hB169 hr85.1.1,(Ext.og hB169 (List.length_pos_of_mem hr85.1.1)).trans hr85.1.2⟩,hr85.2.trans (by rw [Ext.idx hB169 hr85.1.1,Ext.ad hB169 _ (Cp.og_idx _ hr85.1.1).1])⟩⟩ (hnp108)
end
section
structure Iso (R:Nat→Nat→Prop) (F G:FsM):Prop where
  root:R 0 0
  l:∀ {i j j'},R i j→R i j'→j=j'
  r:∀ {i i' j},R i j→R i' j→i=i'
  lt:∀ {i j},R i j→i<F.N.length∧j<G.N.length
  nd:∀ {i j},R i j→F.at i=G.at j
  e:∀ {i j},R i j→∀ s,(∀ m,Ai F.E i s=some m→∃ m',Ai G.E j s=some m'∧R m m')∧(Ai F.E i s=none→Ai G.E j s=none)
  o:∀ c fd,(∀ m,Az F.O c fd=some m→∃ m',Az G.O c fd=some m'∧R m m')∧(Az F.O c fd=none→Az G.O c fd=none)
def BR (F:FsM) (c:Cp):FsM:=⟨c.K.map F.at,c.E,F.O.map fun o=>⟨o.cl,o.fd,c.K.idxOf o.nd⟩⟩
def Tg (c:Cp) (i j:Nat):Prop:=i∈c.K∧c.K.idxOf i=j
theorem Kq (F:FsM) (c:Cp) (cl fd:Int):Az (BR F c).O cl fd=(Az F.O cl fd).map c.K.idxOf:=by
  unfold Az BR
  rw [List.find?_map,Option.map_map,Option.map_map]
  rfl
theorem wfO {F:FsM} {δ:Nat→Int} (hF:FsC F δ) {cl fd:Int} {m:Nat} (h:Az F.O cl fd=some m):wfD (cl,fd):=by
  obtain ⟨x,hx,rfl,rfl,_⟩:=Gf h
  have:=hF.o x hx
  exact ⟨wf_i64 ω ω,wf_i64 ω ω⟩
theorem QL {O:List OpM} (hd:O.Pairwise (fun x y=>¬ (x.cl=y.cl∧x.fd=y.fd))) {x:OpM} (hx:x∈O):Az O x.cl x.fd=some x.nd:=by
  cases h:Az O x.cl x.fd with
  | none=>exact absurd ⟨rfl,rfl⟩ (Kr h x hx)
  | some m=>
    obtain ⟨y,hy,e1,e2,e3⟩:=Gf h
    rcases MG hd hx hy with e | e | e
    · rw [e,e3]
    · exact absurd ⟨e1.symm,e2.symm⟩ e
    · exact absurd ⟨e1,e2⟩ e
section
variable {F:FsM} {A:AdM} {c:Cp} {w:World} {n:Nat} {g2:Int×Int→Option (Option Nat)} {left:Int×Int→Bool} {δ:Nat→Int}
theorem Qg (hF:FsC F δ) (hc:CpOk F A c) (he:Ext F cpE c) (h0:0∈c.K∧c.og 0=0) (ho:ComeO F c g2 left n) (hl:∀ p,wfD p→left p=false):Iso (Tg c) F (BR F c):=by
  have i0:c.K.idxOf 0=0:=hc.og_inj (c.og_idx h0.1).1 (List.length_pos_of_mem h0.1) ((c.og_idx h0.1).2.trans h0.2.symm)
  exact {
    root:=⟨h0.1,i0⟩
    l:=fun h1 h2=>h1.2.symm.trans h2.2
    r:=fun {i i' j} h1 h2=>by
      have e1:=(c.og_idx h1.1).2
      have e2:=(c.og_idx h2.1).2
      rw [h1.2] at e1;rw [h2.2] at e2
      exact e1.symm.trans e2
    lt:=fun h=>⟨hc.lt _ h.1,by show _<(c.K.map F.at).length;rw [List.length_map,← h.2];exact (c.og_idx h.1).1⟩
    nd:=fun {i j} h=>by
      obtain ⟨h1,h2⟩:=c.og_idx h.1
      have z:=Cp.at F c h1
      rw [h2,h.2] at z
      exact z.symm
    e:=fun {i j} h s=>by
      obtain ⟨h1,h2⟩:=c.og_idx h.1
      obtain ⟨d1,d2⟩:=he.done (c.K.idxOf i) (Nat.zero_le _) h1
      rw [h2,h.2] at d1 d2
      exact ⟨fun m hm=>⟨_,(d1 s m hm).2,(d1 s m hm).1,rfl⟩,d2 s⟩
    o:=fun cl fd=>by
      rw [Kq]
      refine ⟨fun m hm=>?_,fun hn=>by rw [hn];rfl⟩
      have hw:=wfO hF hm
      exact ⟨_,by rw [hm];rfl,(ho.c (cl,fd) hw (hl _ hw) m hm).1,rfl⟩ }
theorem MapG.cong {ι α:Type} [DecidableEq ι] {K:MapK ι α} {b:Nat} {g g':ι→Option α} (h:MapG K w b n g) (hg:∀ i,K.ok i→g' i=g i):MapG K w b n g':=by
  obtain ⟨D,h1,h2,h3⟩:=h
  exact ⟨D,h1,fun i hi=>by rw [hg i hi];exact h2 i hi,fun i a hi ha z=>h3 i a hi (by rw [← hg i hi];exact ha) z⟩
theorem RF (hF:FsC F δ) (ho:ComeO F c g2 left n) (hl:∀ p,wfD p→left p=false):∀ p,wfD p→opG (BR F c) { c.A with C:=n } p=g2 p:=fun p hp=>by
  unfold opG elA
  rw [Kq]
  cases hm:Az F.O p.1 p.2 with
  | none=>rw [ho.b p hp hm];rfl
  | some m=>rw [(ho.c p hp (hl p hp) m hm).2];rfl
theorem Fp (F:FsM) (c:Cp) {p:Nat} (hp:p<c.K.length):(BR F c).dir p=F.dir (c.og p):=congrArg NodeM.dir (Cp.at F c hp)
theorem Qf (hF:FsC F δ) (hc:CpOk F A c) (he:Ext F cpE c) (h0:0∈c.K∧c.og 0=0) (ho:ComeO F c g2 left n) (hl:∀ p,wfD p→left p=false):∃ δ2,FsC (BR F c) δ2:=by
  have i0:c.K.idxOf 0=0:=hc.og_inj (c.og_idx h0.1).1 (List.length_pos_of_mem h0.1) ((c.og_idx h0.1).2.trans h0.2.symm)
  have hlen:(BR F c).N.length=c.K.length:=List.length_map ..
  have key:∀ x∈c.E,∃ y∈F.E,y.dn=c.og x.dn∧y.nm=x.nm∧Ai F.E y.dn y.nm=some y.nd∧y.nd∈c.K∧x.nd=c.K.idxOf y.nd:=fun x hx=>by
    obtain ⟨h1,h2,y,hy,e1,e2⟩:=hc.e x hx
    have hl:=EY hF.ed hy
    have hl2:=hl
    rw [e1,e2] at hl2
    obtain ⟨h3,h4⟩:=(he.done x.dn (Nat.zero_le _) h1).1 _ _ hl2
    rw [EY hc.ed hx] at h4
    exact ⟨y,hy,e1,e2,hl,h3,by injection h4⟩
  have kO:∀ o∈F.O,o.nd∈c.K:=fun o h=>by
    have hl2:=QL hF.od h
    have hw:=wfO hF hl2
    exact (ho.c (o.cl,o.fd) hw (hl _ hw) _ hl2).1
  refine ⟨fun i=>((BR F c).at i).links-(EV c.E i:Int),?_⟩
  exact {
    n0:=⟨by rw [hlen];exact List.length_pos_of_mem h0.1,by rw [Fp F c (List.length_pos_of_mem h0.1),h0.2];exact hF.n0.2⟩
    e:=fun x hx=>by
      obtain ⟨h1,h2,_⟩:=hc.e x hx
      obtain ⟨y,hy,e1,e2,hl,h3,h4⟩:=key x hx
      obtain ⟨q1,q2,q3⟩:=hF.e y hy
      rw [hlen,Fp F c h1,← e1,← e2]
      refine ⟨⟨h1,q1.2⟩,⟨h2,?_⟩,q3⟩
      rcases Nat.eq_zero_or_pos x.nd with z | z
      · have e5:=(c.og_idx h3).2
        rw [← h4,z,h0.2] at e5
        omega
      · exact z
    ed:=hc.ed
    du:=List.Pairwise.imp_of_mem (fun {x x2} hx hx2 hne e=>by
      obtain ⟨h1,h2,_⟩:=hc.e x hx
      obtain ⟨y,hy,e1,e2,hl,h3,h4⟩:=key x hx
      obtain ⟨z,hz,f1,f2,hl2,h5,h6⟩:=key x2 hx2
      have hyz:y.nd=z.nd:=by
        have a:=(c.og_idx h3).2
        have b:=(c.og_idx h5).2
        rw [← h4,e,h6] at a
        exact a.symm.trans b
      rw [Fp F c h2,h4,(c.og_idx h3).2]
      cases hd:F.dir y.nd with
      | false=>rfl
      | true=>
        obtain ⟨a,b⟩:=hF.one hl (by rw [hl2,hyz]) hd
        exact absurd ⟨hc.og_inj h1 (hc.e x2 hx2).1 (by rw [← e1,← f1];exact a),by rw [← e2,← f2];exact b⟩ hne) hc.ed
    o:=fun x hx=>by
      obtain ⟨o,h1,rfl⟩:=List.mem_map.1 hx
      have hm:=kO o h1
      obtain ⟨h2,h3⟩:=c.og_idx hm
      obtain ⟨q1,q2,q3⟩:=hF.o o h1
      exact ⟨⟨by rw [hlen];exact h2,by rw [Fp F c h2,h3];exact q1.2⟩,q2,q3⟩
    od:=List.pairwise_map.2 hF.od
    k:=fun i hi=>by
      rw [hlen] at hi
      have hk:=hF.k _ (hc.lt _ (c.og_mem hi))
      have ea:(BR F c).at i=F.at (c.og i):=Cp.at F c hi
      refine ⟨by rw [ea];exact hk.1,fun hd=>by rw [ea];exact hk.2.1 (by rw [← Fp F c hi];exact hd),fun _=>?_⟩
      show _=(EV c.E i:Int)+(((BR F c).at i).links-(EV c.E i:Int))
      omega }
end
end
section
def Up (F:FsM) (p:FsM×RepM):Prop:=p.2.e≠0→p.1=F∧p.2=Au p.2.e
section
variable {F:FsM}
end
end
section
structure RowM where
  dp:Int
  nm:ByteArray
  cl:Int
  fd:Int
  fl:Int
  dt:List UInt8
abbrev Dv:RowM:=⟨0,Ad [],0,0,0,[]⟩
abbrev MT (r:RowM) (s:ByteArray):RowM:=⟨r.dp+1,s,0,0,0,[]⟩
abbrev Nl (p:Int×Int):RowM:=⟨0,Ad [],p.1,p.2,0,[]⟩
abbrev Rows:=List RowM×List Nat
def Gi (F:FsM) (V:List Nat) (k:Nat):List Nat:=if F.dir k=true then V else if k∈V then V else V++[k]
def NM (F:FsM) (r:RowM) (k:Nat) (V:List Nat):RowM:=if F.dir k=true then r else { r with fl:=((V.idxOf k+1:Nat):Int),dt:=(F.at k).data }
def Di (F:FsM) (r:RowM) (k:Nat) (s:Rows):Rows:=(s.1++[NM F r k (Gi F s.2 k)],Gi F s.2 k)
def CL (F:FsM) (k:Nat) (s:ByteArray):Nat:=(Ai F.E k s).getD 0
def DV (F:FsM):Nat→RowM→Nat→Rows→Rows
  | 0,r,k,s=>Di F r k s
  | n+1,r,k,s=>(AC (Al F.E k)).foldl (fun t x=>DV F n (MT r x) (CL F k x) t) (Di F r k s)
theorem Lq {F:FsM} {k:Nat} (h:F.dir k=true) (r:RowM) (s:Rows):Di F r k s=(s.1++[r],s.2):=by
  unfold Di NM Gi
  rw [if_pos h,if_pos h]
theorem OZ {F:FsM} {k:Nat} (h:F.dir k=false) (r:RowM) (s:Rows) (hm:k∈s.2):Di F r k s=(s.1++[⟨r.dp,r.nm,r.cl,r.fd,((s.2.idxOf k+1:Nat):Int),(F.at k).data⟩],s.2):=by
  unfold Di NM Gi
  rw [h]
  rw [if_neg (by decide),if_neg (by decide),if_pos hm]
theorem Kf {V:List Nat} {k:Nat} (h:¬ k∈V):(V++[k]).idxOf k=V.length:=by
  rw [List.idxOf_append,if_neg h,List.idxOf_cons_self,Nat.zero_add]
theorem OY {F:FsM} {k:Nat} (h:F.dir k=false) (r:RowM) (s:Rows) (hm:¬ k∈s.2):Di F r k s=(s.1++[⟨r.dp,r.nm,r.cl,r.fd,((s.2.length+1:Nat):Int),(F.at k).data⟩],s.2++[k]):=by
  unfold Di NM Gi
  rw [h]
  rw [if_neg (by decide),if_neg (by decide),if_neg hm,Kf hm]
def addL (F:FsM) (n:Nat) (r:RowM) (k:Nat) (X:List ByteArray) (t:Rows):Rows:=X.foldl (fun t x=>DV F n (MT r x) (CL F k x) t) t
theorem EJ (F:FsM) (n:Nat) (r:RowM) (k:Nat) (s:Rows):DV F (n+1) r k s=addL F n r k (AC (Al F.E k)) (Di F r k s):=rfl
theorem OE (F:FsM) (n:Nat) (r:RowM) (k:Nat) (X:List ByteArray) (x:ByteArray) (t:Rows):addL F n r k (X++[x]) t=DV F n (MT r x) (CL F k x) (addL F n r k X t):=by unfold addL;rw [List.foldl_append];rfl
theorem PQ (F:FsM) (n:Nat) (r:RowM) (k:Nat) (X Y:List ByteArray) (t:Rows):addL F n r k (X++Y) t=addL F n r k Y (addL F n r k X t):=List.foldl_append
def Lh (F:FsM):Nat→Nat→List ByteArray→List (List ByteArray)
  | 0,_,M=>[M]
  | n+1,k,M=>M::(AC (Al F.E k)).flatMap fun x=>Lh F n (CL F k x) (M++[x])
theorem Ge (F:FsM) (r:RowM) (k:Nat) (s:Rows):(Di F r k s).1.length=s.1.length+1:=List.length_append
theorem JR (F:FsM):∀ (n:Nat) (r:RowM) (k:Nat) (s:Rows) (M:List ByteArray),(DV F n r k s).1.length=s.1.length+(Lh F n k M).length
  | 0,r,k,s,M=>Ge F r k s
  | n+1,r,k,s,M=>by
    have:∀ (X:List ByteArray) (t:Rows),(addL F n r k X t).1.length=t.1.length+(X.flatMap fun x=>Lh F n (CL F k x) (M++[x])).length:=by
      intro X
      induction X with
      | nil=>intro t;rfl
      | cons x X ih=>
        intro t
        show (addL F n r k X (DV F n (MT r x) (CL F k x) t)).1.length=_
        rw [ih,JR F n _ _ _ (M++[x]),List.flatMap_cons,List.length_append]
        omega
    rw [EJ,this,Ge]
    show _=s.1.length+(_+1)
    omega
theorem NZ (F:FsM) (n:Nat) (r:RowM) (k:Nat) (X:List ByteArray) (t:Rows):t.1.length≤(addL F n r k X t).1.length:=by
  induction X generalizing t with
  | nil=>exact Nat.le_refl _
  | cons x X ih=>
    refine Nat.le_trans ?_ (ih _)
    rw [JR F n _ _ _ []]
    omega
theorem OF (F:FsM) (n:Nat) (r:RowM) (k:Nat) (X:List ByteArray) (i:Nat) (t:Rows):(addL F n r k (X.take i) t).1.length≤(addL F n r k X t).1.length:=by
  have e:=PQ F n r k (X.take i) (X.drop i) t
  rw [List.take_append_drop] at e
  rw [e];exact NZ ..
section
variable {F:FsM} {δ:Nat→Int}
theorem EK (hF:FsC F δ) {k:Nat} {x:ByteArray} (h:x∈AC (Al F.E k)):Ai F.E k x=some (CL F k x)∧F.dir k=true:=by
  have z:=EL.1 ((Ek _).mem_iff.1 h)
  obtain ⟨m,hm⟩:=Option.isSome_iff_exists.1 z
  obtain ⟨y,hy,e,_⟩:=BL hm
  exact ⟨by unfold CL;rw [hm];rfl,e ▸ (hF.e y hy).1.2⟩
theorem JT (hF:FsC F δ) (k:Nat) (x:ByteArray):CL F k x<F.N.length:=by
  unfold CL
  cases h:Ai F.E k x with
  | none=>exact hF.n0.1
  | some m=>exact (hF.look_lt h).1
theorem Gs {M:List ByteArray} {k m:Nat} {x:ByteArray} (h:Ao F 0 M=(0,k)) (hd:F.dir k=true) (hl:Ai F.E k x=some m):Ao F 0 (M++[x])=(0,m):=by
  rw [Gr,h]
  dsimp only
  rw [if_pos rfl,if_pos hd,hl]
theorem Hh (hF:FsC F δ):∀ (n k:Nat) (M:List ByteArray),Ao F 0 M=(0,k)→(∀ L∈Lh F n k M,(∃ S,L=M++S)∧(Ao F 0 L).1=0)∧(Lh F n k M).Nodup
  | 0,k,M,h=>⟨fun L hL=>by rw [List.mem_singleton.1 hL];exact ⟨⟨[],(List.append_nil M).symm⟩,by rw [h]⟩,by simp [Lh]⟩
  | n+1,k,M,h=>by
    have key:∀ x∈AC (Al F.E k),Ao F 0 (M++[x])=(0,CL F k x):=fun x hx=>Gs h (EK hF hx).2 (EK hF hx).1
    have hx0:∀ L∈(AC (Al F.E k)).flatMap (fun x=>Lh F n (CL F k x) (M++[x])),(∃ x S,L=(M++[x])++S)∧(Ao F 0 L).1=0:=fun L hL=>by
      obtain ⟨x,hx,hL⟩:=List.mem_flatMap.1 hL
      obtain ⟨⟨S,e⟩,h2⟩:=(Hh hF n _ _ (key x hx)).1 L hL
      exact ⟨⟨x,S,e⟩,h2⟩
    refine ⟨fun L hL=>?_,List.nodup_cons.2 ⟨fun hM=>?_,?_⟩⟩
    · rcases List.mem_cons.1 hL with rfl | hL
      · exact ⟨⟨[],(List.append_nil _).symm⟩,by rw [h]⟩
      · obtain ⟨⟨x,S,e⟩,h2⟩:=hx0 L hL
        exact ⟨⟨[x]++S,by rw [e,List.append_assoc]⟩,h2⟩
    · obtain ⟨⟨x,S,e⟩,_⟩:=hx0 M hM
      have:=congrArg List.length e
      simp at this
    · have nd:=(Ek (Al F.E k)).nodup_iff.2 (Ha hF.ed k)
      have all:∀ X:List ByteArray,X.Nodup→(∀ x∈X,x∈AC (Al F.E k))→(X.flatMap fun x=>Lh F n (CL F k x) (M++[x])).Nodup:=by
        intro X
        induction X with
        | nil=>intro _ _;exact List.nodup_nil
        | cons x X ih=>
          intro h1 h2
          obtain ⟨h3,h4⟩:=List.nodup_cons.1 h1
          rw [List.flatMap_cons]
          refine List.nodup_append.2 ⟨(Hh hF n _ _ (key x (h2 x List.mem_cons_self))).2,ih h4 (fun y hy=>h2 y (List.mem_cons_of_mem _ hy)),fun a ha b hb e=>?_⟩
          subst e
          obtain ⟨y,hy,hb⟩:=List.mem_flatMap.1 hb
          obtain ⟨⟨S,e1⟩,_⟩:=(Hh hF n _ _ (key x (h2 x List.mem_cons_self))).1 a ha
          obtain ⟨⟨T,e2⟩,_⟩:=(Hh hF n _ _ (key y (h2 y (List.mem_cons_of_mem _ hy)))).1 a hb
          rw [e1,List.append_assoc,List.append_assoc] at e2
          have e3:=List.append_cancel_left e2
          have e4:x=y:=by injection e3
          exact h3 (e4 ▸ hy)
      exact all _ nd (fun x hx=>hx)
theorem Sg (hF:FsC F δ) (n:Nat):(Lh F n 0 []).length≤F.E.length+1:=by
  obtain ⟨h1,h2⟩:=Hh hF n 0 [] rfl
  obtain ⟨V,hV⟩:∃ V,Lh F n 0 []=[]::V:=by cases n with | zero=>exact ⟨[],rfl⟩ | succ n=>exact ⟨_,rfl⟩
  rw [hV] at h1 h2 ⊢
  obtain ⟨h3,h4⟩:=List.nodup_cons.1 h2
  have key:∀ L∈V,∃ A y a,L=A++[y]∧Ao F 0 A=(0,a)∧F.dir a=true∧(∃ z∈F.E,z.dn=a∧z.nm=y)∧((Ao F 0 L.dropLast).2,L.getLastD Bv)=(a,y):=fun L hL=>by
    rcases CJ L with e | ⟨A,y,e⟩
    · subst e;exact absurd hL h3
    · subst e
      have z:=(h1 _ (List.mem_cons_of_mem _ hL)).2
      obtain ⟨a,h5,h6,h7⟩:=FH (show Ao F 0 (A++[y])=(0,(Ao F 0 (A++[y])).2) from Prod.ext z rfl)
      obtain ⟨u,hu,e1,e2,_⟩:=BL h7
      exact ⟨A,y,a,rfl,h5,h6,⟨u,hu,e1,e2⟩,by rw [List.dropLast_concat,h5];simp⟩
  have z:=DA (A:=V.map fun L=>((Ao F 0 L.dropLast).2,L.getLastD Bv)) (B:=F.E.map fun y=>(y.dn,y.nm)) (by
    unfold List.Nodup
    rw [List.pairwise_map]
    refine List.Pairwise.imp_of_mem (fun {x y} hx hy hxy e=>hxy ?_) h4
    obtain ⟨A,u,a,e1,h5,h6,_,e2⟩:=key x hx
    obtain ⟨B,v,b,e3,h7,_,_,e4⟩:=key y hy
    rw [e2,e4] at e
    obtain ⟨e5,e6⟩:=Prod.mk.inj e
    subst e5;subst e6
    rw [e1,e3,hF.uniq _ A B a rfl h5 h7 h6]) (fun q hq=>by
    obtain ⟨L,hL,rfl⟩:=List.mem_map.1 hq
    obtain ⟨A,y,a,_,_,_,⟨z,hz,e1,e2⟩,e⟩:=key L hL
    exact List.mem_map.2 ⟨z,hz,by rw [e,e1,e2]⟩)
  rw [List.length_map,List.length_map] at z
  rw [List.length_cons];omega
theorem RH (hF:FsC F δ) {M:List ByteArray} {k:Nat} (h:Ao F 0 M=(0,k)) (hd:F.dir k=true):M.length<F.N.length:=by
  have key:∀ (n:Nat) (M:List ByteArray) (k:Nat),M.length=n→Ao F 0 M=(0,k)→F.dir k=true→∃ P:List Nat,P.Nodup∧P.length=n+1∧∀ p∈P,p<F.N.length∧∃ B,B.length≤n∧Ao F 0 B=(0,p):=by
    intro n
    induction n with
    | zero=>
      intro M k hn h hd
      exact ⟨[k],by simp,rfl,fun p hp=>by rw [List.mem_singleton.1 hp];exact ⟨by have z:=hF.walk_lt M 0 hF.n0.1;rw [h] at z;exact z,M,ω,h⟩⟩
    | succ n ih=>
      intro M k hn h hd
      rcases CJ M with e | ⟨A,x,e⟩
      · subst e;cases hn
      subst e
      obtain ⟨a,ha,hda,hla⟩:=FH h
      have hA:A.length=n:=by simpa using hn
      obtain ⟨P,h1,h2,h3⟩:=ih A a hA ha hda
      refine ⟨k::P,List.nodup_cons.2 ⟨fun hk=>?_,h1⟩,by rw [List.length_cons,h2],fun p hp=>?_⟩
      · obtain ⟨_,B,hB,hw⟩:=h3 k hk
        have e:=hF.uniq _ B (A++[x]) k rfl hw h hd
        rw [e,hn] at hB;omega
      · rcases List.mem_cons.1 hp with rfl | hp
        · exact ⟨(hF.look_lt hla).1,_,ω,h⟩
        · obtain ⟨h4,B,h5,h6⟩:=h3 p hp
          exact ⟨h4,B,ω,h6⟩
  obtain ⟨P,h1,h2,h3⟩:=key _ M k rfl h hd
  have z:=DA (B:=List.range F.N.length) h1 (fun p hp=>List.mem_range.2 (h3 p hp).1)
  rw [List.length_range,h2] at z;omega
def Fuel (F:FsM) (n k:Nat):Prop:=F.dir k=true→∃ M,Ao F 0 M=(0,k)∧F.N.length≤n+M.length
theorem Fuel.pos (hF:FsC F δ) {n k:Nat} (h:Fuel F n k) (hd:F.dir k=true):∃ m,n=m+1:=by
  obtain ⟨M,h1,h2⟩:=h hd
  have:=RH hF h1 hd
  exact ⟨n-1,ω⟩
theorem Fuel.sub (hF:FsC F δ) {n k:Nat} (h:Fuel F (n+1) k) {x:ByteArray} (hx:x∈AC (Al F.E k)):Fuel F n (CL F k x):=fun _=>by
  obtain ⟨h1,h2⟩:=EK hF hx
  obtain ⟨M,h3,h4⟩:=h h2
  exact ⟨M++[x],Gs h3 h2 h1,by rw [List.length_append];show _≤n+(M.length+1);omega⟩
theorem Nx (hF:FsC F δ) {k:Nat} (hd:F.dir k=false):AC (Al F.E k)=[]:=by
  cases h:AC (Al F.E k) with
  | nil=>rfl
  | cons x r=>
    have:=(EK hF (k:=k) (x:=x) (by rw [h];exact List.mem_cons_self)).2
    rw [hd] at this;cases this
theorem OD (hF:FsC F δ) {k:Nat} (hd:F.dir k=false) (n:Nat) (r:RowM) (s:Rows):DV F n r k s=Di F r k s:=by
  cases n with
  | zero=>rfl
  | succ n=>rw [EJ,Nx hF hd];rfl
structure MkOk (F:FsM) (V:List Nat):Prop where
  nd:V.Nodup
  lt:∀ v∈V,v<F.N.length
theorem MkOk.nil:MkOk F []:=⟨List.nodup_nil,fun v h=>(by cases h)⟩
theorem MkOk.len {V:List Nat} (h:MkOk F V):V.length≤F.N.length:=by
  have z:=DA (B:=List.range F.N.length) h.nd (fun a ha=>List.mem_range.2 (h.lt a ha))
  rw [List.length_range] at z;exact z
theorem MkOk.mark {V:List Nat} (h:MkOk F V) {k:Nat} (hk:k<F.N.length):MkOk F (Gi F V k):=by
  unfold Gi
  split
  · exact h
  · split
    · exact h
    · rename_i hm
      exact ⟨List.nodup_append.2 ⟨h.nd,by simp,fun a ha b hb e=>hm (by rw [List.mem_singleton] at hb;rw [← hb,← e];exact ha)⟩,fun v hv=>by
        rcases List.mem_append.1 hv with hv | hv
        · exact h.lt v hv
        · rw [List.mem_singleton] at hv;rw [hv];exact hk⟩
theorem MkOk.add (hF:FsC F δ):∀ (n:Nat) (r:RowM) (k:Nat) (s:Rows),MkOk F s.2→k<F.N.length→MkOk F (DV F n r k s).2
  | 0,r,k,s,h,hk=>h.mark hk
  | n+1,r,k,s,h,hk=>by
    rw [EJ]
    have:∀ (X:List ByteArray) (t:Rows),MkOk F t.2→MkOk F (addL F n r k X t).2:=by
      intro X
      induction X with
      | nil=>intro t h;exact h
      | cons x X ih=>intro t h;exact ih _ (MkOk.add hF n _ _ _ h (JT hF k x))
    exact this _ _ (h.mark hk)
theorem MkOk.addL (hF:FsC F δ) (n:Nat) (r:RowM) (k:Nat) (X:List ByteArray) (t:Rows) (h:MkOk F t.2):MkOk F (addL F n r k X t).2:=by
  induction X generalizing t with
  | nil=>exact h
  | cons x X ih=>exact ih _ (MkOk.add hF n _ _ _ h (JT hF k x))
def flL (A:AdM) (V:List Nat):List (Nat×Int):=(List.range V.length).map fun i=>(A.ad (V.getD i 0),((i+1:Nat):Int))
theorem QA {V:List Nat} {k:Nat} (hk:k∈V):V.getD (V.idxOf k) 0=k:=by
  have h:=List.idxOf_lt_length_of_mem hk
  rw [List.getD_eq_getElem?_getD,List.getElem?_eq_getElem h];exact List.getElem_idxOf h
theorem Oh {A:AdM} {V:List Nat} (h:MkOk F V) (hi:∀ i j,i<F.N.length→j<F.N.length→A.ad i=A.ad j→i=j) {k:Nat} (hk:k<F.N.length):EZ (flL A V) (A.ad k)=if k∈V then some ((V.idxOf k+1:Nat):Int) else none:=by
  have og:∀ i,i<V.length→V.getD i 0∈V:=fun i hi=>by rw [List.getD_eq_getElem?_getD,List.getElem?_eq_getElem hi];exact List.getElem_mem hi
  by_cases hm:k∈V
  · rw [if_pos hm]
    have h1:=List.idxOf_lt_length_of_mem hm
    have h2:=QA hm
    have hmem:(A.ad k,((V.idxOf k+1:Nat):Int))∈flL A V:=List.mem_map.2 ⟨V.idxOf k,List.mem_range.2 h1,by rw [h2]⟩
    unfold EZ
    cases hf:(flL A V).find? (fun p=>decide (p.1=A.ad k)) with
    | none=>exact absurd (List.find?_eq_none.1 hf _ hmem) (by simp)
    | some x=>
      have hx:=List.mem_of_find?_eq_some hf
      have hx1:=List.find?_some hf
      obtain ⟨p,hp,rfl⟩:=List.mem_map.1 hx
      have hp:=List.mem_range.1 hp
      have e:=hi _ _ (h.lt _ (og p hp)) hk (of_decide_eq_true hx1)
      have:p=V.idxOf k:=by
        have e2:V[p]=V[V.idxOf k]:=by
          rw [List.getElem_idxOf h1]
          rw [List.getD_eq_getElem?_getD,List.getElem?_eq_getElem hp] at e;exact e
        exact (List.getElem_inj h.nd).1 e2
      rw [this];rfl
  · rw [if_neg hm]
    unfold EZ
    rw [List.find?_eq_none.2]
    · rfl
    · intro x hx
      obtain ⟨p,hp,rfl⟩:=List.mem_map.1 hx
      have hp:=List.mem_range.1 hp
      simp only [decide_eq_true_eq]
      intro e
      exact hm ((hi _ _ (h.lt _ (og p hp)) hk e) ▸ og p hp)
theorem RK (A:AdM) (V:List Nat) (k:Nat):flL A (V++[k])=flL A V++[(A.ad k,((V.length+1:Nat):Int))]:=by
  unfold flL
  rw [List.length_append,List.length_singleton,List.range_succ,List.map_append]
  congr 1
  · refine List.map_congr_left fun p hp=>?_
    have hp:=List.mem_range.1 hp
    rw [List.getD_eq_getElem?_getD,List.getElem?_append_left hp,← List.getD_eq_getElem?_getD]
  · show [(A.ad ((V++[k]).getD V.length 0),((V.length+1:Nat):Int))]=_
    rw [List.getD_eq_getElem?_getD,List.getElem?_append_right (Nat.le_refl _),Nat.sub_self];rfl
end
def Jd:List (Int×Int):=(List.range 64).map fun i=>(((i / 8+1:Nat):Int),((i % 8:Nat):Int))
def EX (F:FsM):List (Int×Int):=Jd.filter fun p=>(Az F.O p.1 p.2).isSome
def FA (F:FsM) (p:Int×Int):Nat:=(Az F.O p.1 p.2).getD 0
def addO (F:FsM) (P:List (Int×Int)) (t:Rows):Rows:=P.foldl (fun t p=>Di F (Nl p) (FA F p) t) t
def Ov (F:FsM):Rows:=addO F (EX F) (DV F 1000 Dv 0 ([],[]))
def Cx (F:FsM):List RowM:=(Ov F).1
theorem OG (F:FsM) (P:List (Int×Int)) (p:Int×Int) (t:Rows):addO F (P++[p]) t=Di F (Nl p) (FA F p) (addO F P t):=by unfold addO;rw [List.foldl_append];rfl
theorem Me (F:FsM) (P:List (Int×Int)) (t:Rows):(addO F P t).1.length=t.1.length+P.length:=by
  induction P generalizing t with
  | nil=>rfl
  | cons p P ih=>
    show (addO F P (Di F (Nl p) (FA F p) t)).1.length=_
    rw [ih,Ge,List.length_cons];omega
theorem IG (F:FsM):(EX F).length≤64:=Nat.le_trans (List.length_filter_le _ _) (by unfold Jd;rw [List.length_map,List.length_range];exact Nat.le_refl _)
theorem Pd:Jd.Pairwise (fun p q=>p.1<q.1∨(p.1=q.1∧p.2<q.2)):=by
  unfold Jd
  rw [List.pairwise_map]
  refine List.Pairwise.imp (fun {a b} h=>?_) List.pairwise_lt_range
  show ((a / 8+1:Nat):Int)<((b / 8+1:Nat):Int)∨(((a / 8+1:Nat):Int)=((b / 8+1:Nat):Int)∧((a % 8:Nat):Int)<((b % 8:Nat):Int))
  omega
theorem Og (F:FsM):(EX F).Pairwise (fun p q=>p.1<q.1∨(p.1=q.1∧p.2<q.2)):=List.Pairwise.filter _ Pd
theorem RJ (F:FsM):(EX F).Nodup:=(Og F).imp fun {p q} h e=>by subst e;omega
theorem Nu {p:Int×Int} (h:(1≤p.1∧p.1≤8)∧0≤p.2∧p.2<8):p∈Jd:=by
  obtain ⟨c,d⟩:=p
  obtain ⟨h1,h2⟩:=h
  refine List.mem_map.2 ⟨8*(c-1).toNat+d.toNat,List.mem_range.2 (by simp only at h1 h2;omega),?_⟩
  simp only at h1 h2
  refine Prod.ext ?_ ?_
  · show ((((8*(c-1).toNat+d.toNat) / 8+1:Nat)):Int)=c
    omega
  · show ((((8*(c-1).toNat+d.toNat) % 8:Nat)):Int)=d
    omega
theorem Pc {p:Int×Int} (h:p∈Jd):(1≤p.1∧p.1≤8)∧0≤p.2∧p.2<8:=by
  obtain ⟨i,hi,rfl⟩:=List.mem_map.1 h
  have hi:=List.mem_range.1 hi
  show (1≤((i / 8+1:Nat):Int)∧((i / 8+1:Nat):Int)≤8)∧0≤((i % 8:Nat):Int)∧((i % 8:Nat):Int)<8
  omega
theorem IH {F:FsM} {δ:Nat→Int} (hF:FsC F δ) {p:Int×Int}:p∈EX F↔(Az F.O p.1 p.2).isSome=true:=by
  unfold EX
  rw [List.mem_filter]
  refine ⟨fun h=>h.2,fun h=>⟨?_,h⟩⟩
  obtain ⟨m,hm⟩:=Option.isSome_iff_exists.1 h
  obtain ⟨x,hx,e1,e2,_⟩:=Gf hm
  have z:=(hF.o x hx).2
  rw [e1,e2] at z
  exact Nu z
theorem MM {F:FsM} {δ:Nat→Int} (hF:FsC F δ) (n:Nat):(DV F n Dv 0 ([],[])).1.length≤F.E.length+1:=by
  rw [JR F n _ _ _ []]
  have:=Sg hF n
  show 0+_≤_
  omega
def RelL (R:Nat→Nat→Prop):List Nat→List Nat→Prop
  | [],[]=>True
  | a::A,b::B=>R a b∧RelL R A B
  | _,_=>False
section
variable {R:Nat→Nat→Prop} {F G:FsM} {δ:Nat→Int}
theorem RelL.snoc:∀ {A B:List Nat} {a b:Nat},RelL R A B→R a b→RelL R (A++[a]) (B++[b])
  | [],[],_,_,_,h=>⟨h,trivial⟩
  | _::_,_::_,_,_,h,h2=>⟨h.1,RelL.snoc h.2 h2⟩
  | [],_::_,_,_,h,_=>h.elim
  | _::_,[],_,_,h,_=>h.elim
theorem RelL.idx (hI:Iso R F G) {k k':Nat} (hk:R k k'):∀ {A B:List Nat},RelL R A B→(k∈A↔k'∈B)∧A.idxOf k=B.idxOf k'
  | [],[],_=>⟨by simp,rfl⟩
  | a::A,b::B,h=>by
    obtain ⟨h1,h2⟩:=RelL.idx hI hk h.2
    have e:(a=k)↔(b=k'):=⟨fun e=>hI.l (e ▸ h.1) hk,fun e=>hI.r (e ▸ h.1) hk⟩
    constructor
    · rw [List.mem_cons,List.mem_cons,h1,eq_comm,e,eq_comm]
    · rw [List.idxOf_cons,List.idxOf_cons,h2]
      by_cases c:a=k
      · rw [beq_iff_eq.2 c,beq_iff_eq.2 (e.1 c)]
      · rw [beq_false_of_ne c,beq_false_of_ne (fun q=>c (e.2 q))]
  | [],_::_,h=>h.elim
  | _::_,[],h=>h.elim
theorem Iso.dir (hI:Iso R F G) {i j:Nat} (h:R i j):F.dir i=G.dir j:=congrArg NodeM.dir (hI.nd h)
theorem Ri {A B:List ByteArray} (h:A.Perm B):AC A=AC B:=by
  refine List.Perm.eq_of_pairwise (le:=leN) (fun a b _ _ h1 h2=>?_) (KP A) (KP B) (((Ek A).trans h).trans (Ek B).symm)
  exact ByteArray.ext (Array.toList_inj.1 (List.le_antisymm h1 h2))
theorem Iso.names (hI:Iso R F G) (hF:FsC F δ) {δ':Nat→Int} (hG:FsC G δ') {i j:Nat} (h:R i j):AC (Al F.E i)=AC (Al G.E j):=by
  refine Ri ((List.perm_ext_iff_of_nodup (Ha hF.ed i) (Ha hG.ed j)).2 fun s=>?_)
  rw [EL,EL]
  obtain ⟨h1,h2⟩:=hI.e h s
  cases hs:Ai F.E i s with
  | none=>rw [h2 hs]
  | some m=>obtain ⟨m',hm,_⟩:=h1 m hs;rw [hm];simp
theorem Iso.mark (hI:Iso R F G) {k k':Nat} (hk:R k k') {V V':List Nat} (hV:RelL R V V'):RelL R (Gi F V k) (Gi G V' k'):=by
  unfold Gi
  rw [hI.dir hk]
  split
  · exact hV
  · by_cases hm:k∈V
    · rw [if_pos hm,if_pos ((hV.idx hI hk).1.1 hm)];exact hV
    · rw [if_neg hm,if_neg (fun q=>hm ((hV.idx hI hk).1.2 q))];exact hV.snoc hk
theorem Iso.head (hI:Iso R F G) {k k':Nat} (hk:R k k') (r:RowM) {s t:Rows} (h1:s.1=t.1) (h2:RelL R s.2 t.2):(Di F r k s).1=(Di G r k' t).1∧RelL R (Di F r k s).2 (Di G r k' t).2:=by
  have hm:=hI.mark hk h2
  refine ⟨?_,hm⟩
  show s.1++[NM F r k (Gi F s.2 k)]=t.1++[NM G r k' (Gi G t.2 k')]
  rw [h1]
  congr 2
  unfold NM
  rw [hI.dir hk,(hm.idx hI hk).2,hI.nd hk]
theorem Iso.add (hI:Iso R F G) (hF:FsC F δ) {δ':Nat→Int} (hG:FsC G δ'):∀ (n:Nat) {k k':Nat} (hk:R k k') (r:RowM) {s t:Rows} (h1:s.1=t.1) (h2:RelL R s.2 t.2),(DV F n r k s).1=(DV G n r k' t).1∧RelL R (DV F n r k s).2 (DV G n r k' t).2
  | 0,k,k',hk,r,s,t,h1,h2=>hI.head hk r h1 h2
  | n+1,k,k',hk,r,s,t,h1,h2=>by
    rw [EJ,EJ,← hI.names hF hG hk]
    have key:∀ (X:List ByteArray) (s t:Rows),(∀ x∈X,x∈AC (Al F.E k))→s.1=t.1→RelL R s.2 t.2→(addL F n r k X s).1=(addL G n r k' X t).1∧RelL R (addL F n r k X s).2 (addL G n r k' X t).2:=by
      intro X
      induction X with
      | nil=>intro s t _ h1 h2;exact ⟨h1,h2⟩
      | cons x X ih=>
        intro s t hX h1 h2
        have hl:=(EK hF (hX x List.mem_cons_self)).1
        obtain ⟨m,hm,hr⟩:=(hI.e hk x).1 _ hl
        have hr2:R (CL F k x) (CL G k' x):=by
          have:CL G k' x=m:=by unfold CL;rw [hm];rfl
          rw [this];exact hr
        obtain ⟨q1,q2⟩:=Iso.add hI hF hG n hr2 (MT r x) h1 h2
        exact ih _ _ (fun y hy=>hX y (List.mem_cons_of_mem _ hy)) q1 q2
    obtain ⟨q1,q2⟩:=hI.head hk r h1 h2
    exact key _ _ _ (fun x hx=>hx) q1 q2
theorem Iso.fds (hI:Iso R F G):EX F=EX G:=by
  unfold EX
  refine List.filter_congr fun p _=>?_
  obtain ⟨h1,h2⟩:=hI.o p.1 p.2
  cases h:Az F.O p.1 p.2 with
  | none=>rw [h2 h]
  | some m=>obtain ⟨m',hm,_⟩:=h1 m h;rw [hm];rfl
theorem Iso.rows (hI:Iso R F G) (hF:FsC F δ) {δ':Nat→Int} (hG:FsC G δ'):Cx F=Cx G:=by
  unfold Cx Ov
  rw [← hI.fds]
  obtain ⟨q1,q2⟩:=hI.add hF hG 1000 hI.root Dv (s:=([],[])) (t:=([],[])) rfl trivial
  have key:∀ (P:List (Int×Int)) (s t:Rows),(∀ p∈P,p∈EX F)→s.1=t.1→RelL R s.2 t.2→(addO F P s).1=(addO G P t).1:=by
    intro P
    induction P with
    | nil=>intro s t _ h _;exact h
    | cons p P ih=>
      intro s t hP h1 h2
      obtain ⟨m,hm⟩:=Option.isSome_iff_exists.1 ((IH hF).1 (hP p List.mem_cons_self))
      obtain ⟨m',hm',hr⟩:=(hI.o p.1 p.2).1 m hm
      have hr2:R (FA F p) (FA G p):=by unfold FA;rw [hm,hm'];exact hr
      obtain ⟨q3,q4⟩:=hI.head hr2 (Nl p) h1 h2
      exact ih _ _ (fun q hq=>hP q (List.mem_cons_of_mem _ hq)) q3 q4
  exact key _ _ _ (fun p hp=>hp) q1 q2
end
end
section
attribute [local go_sem] Oper.semAt_some
def Tu {α:Type} (I:List α→World→Prop) (xs:List α) (W:World):Exit→Act→World→Prop
  | .normal,_,W'=>KeepsOthers W W'∧I xs W'
  | _,_,_=>False
theorem Jr {F:Fence} {n:Nat} {P:Program} {α:Type} {g:Operand} {ps:Array Tmp} {assign body:Code} {Q:Exit→Act→World→Prop} {a:Act} {w:World}
    (hro:F.round=none) (h1:1≤n) {gf:Nat} {lb:Array Value} (hg:a.eval g=.func (.func gf) #[] lb) (hFg:F.fn gf) (eg:∀ args w,(callFunc gf args).run P w=.ok (.enter gf args) w)
    {enc:α→Value} {S:List α→Prop} {N:Nat} {w0:World} (hseq:SeqGives F (n-1) P gf lb enc S N w0) (hb0:Below w0.heap.size w0 w) (hps:ps.size=1)
    (I:List α→World→Prop) (hI:OwnFrom w.heap.size I) (h0:I [] w)
    (Ax:α→Act→World→Prop) (hAx:∀ x a' X l o o',Ax x a' X→X.heap[l]? = some (.loop o)→Ax x a' (X.putObj l o'))
    (hassign:∀ (l:Nat) (pre:List α) (x:α) (W:World) (K:Act→World→Prop),I pre W→w.heap.size≤W.heap.size→(∀ a' W',KeepsOthers W W'→I pre W'→Ax x a' W'→K a' W') →
      assign.wpIn (F.inRound l) (n-1-1) P (Exit.then K (fun _ _ _=>False)) { tmps:=(ps.zip #[enc x]).foldl (fun t (p,v)=>t.setIfInBounds p v) a.tmps,defers:=[] } W)
    (hbody:∀ (l:Nat) (pre:List α) (x:α) (a':Act) (W:World),I pre W→Ax x a' W→w.heap.size≤W.heap.size→pre.length<N→body.wpIn (F.inRound l) (n-1-1) P (Tu I (pre++[x]) W) a' W)
    (hdone:∀ (D:Nat) (xs:List α) (W:World),w.heap.size≤D→S xs→I xs W→W.heap[D]? = some (.deferred (some []))→Q .normal { a with defers:={ target:=.collected D,args:=#[] }::a.defers } W) :
    (Code.rangeFunc g ps assign body).wpIn F n P Q a w:=by
  refine wpIn_rangeFunc ?_
  intro fn hfn
  rw [hro]
  obtain ⟨rec,hrec⟩:∃ rec:LoopState→Option Code→Loop,rec=fun st pe=>{ state:=st,pending:=pe,fn,tmps:=a.tmps,params:=ps,assign,body,defers:=w.heap.size }:=⟨_,rfl⟩
  obtain ⟨W1,hW1⟩:∃ W1,(w.alloc (.deferred (some []))).alloc (.loop (rec .ready none))=W1:=⟨_,rfl⟩
  have hs1:W1.heap.size=w.heap.size+2:=by rw [← hW1];simp
  have hL1:W1.heap[w.heap.size+1]? = some (.loop (rec .ready none)):=by
    rw [← hW1];have:=World.alloc_heap_new (w.alloc (.deferred (some []))) (.loop (rec .ready none));rwa [World.size_alloc] at this
  have hK1:W1.heap[w.heap.size]? = some (.deferred (some [])):=by
    rw [← hW1];exact (Below.heap_alloc _ _ _ (by simp)).trans (World.alloc_heap_new w _)
  have hI1:I [] W1:=by rw [← hW1];exact hI.alloc _ (hI.alloc _ h0)
  have hb1:Below w0.heap.size w0 W1:=by
    rw [← hW1];exact hb0.trans ((((Below.refl _ w).alloc (Nat.le_refl _) _).alloc (by simp) _).mono hb0.size)
  refine ⟨w.heap.size+1,[{ target:=.collected w.heap.size,args:=#[] }],W1,{ target:=.fn (.func gf) lb,args:=#[.func (.yield (w.heap.size+1)) #[] #[]] },W1,gf,
    #[.func (.yield (w.heap.size + 1)) #[] #[]] ++ lb, W1, ?_, ?_, ?_, ?_, fun _ => h1, ?_⟩
  · rw [← hW1,hrec];exact run_enterLoop_outer _ _ _ _ _
  · simp only [resolve,hg]
    simp [go_sem]
  · intro f' hf';simp [Target.leads] at hf';subst hf';exact hFg
  · simp [invoke,go_sem,eg]
  · refine (hseq (w.heap.size+1)
      (fun pre W=>(I pre W∧w.heap.size+1<W.heap.size)∧W.heap[w.heap.size+1]? = some (.loop (rec .ready none))∧W.heap[w.heap.size]? = some (.deferred (some [])))
      W1 hb1 (fun s A B row hs hg' hr=>⟨⟨hI s A B row hs.1.1 hg' (fun r e=>?_),Nat.lt_of_lt_of_le hs.1.2 hg'.size⟩,(grownBy_keeps hg' (fun r e=>(hr r e).2) hs.2.1 rfl).trans hs.2.1,(grownBy_keeps hg' (fun r e=>(hr r e).2) hs.2.2 rfl).trans hs.2.2⟩)
      ?_ ⟨⟨hI1,ω⟩,hL1,hK1⟩).mono ?_
    · obtain ⟨q1,o,q2,q3⟩:=hr r e
      exact ⟨ω,o,q2,Obj.not_cells_of_walk q3⟩
    · rintro pre x W ⟨⟨hi,hlt⟩,hl,hk⟩ hlen
      have hy:=run_yield (P:=P) (args:=#[enc x]) hl (by rw [hrec];exact hps.symm)
      rw [hrec] at hy
      refine ⟨fn,_,assign,body,hy,roundIn_of_wpIn hfn (hassign _ pre x W _ hi ω ?_)⟩
      clear hy
      intro a' Wa hka hia hax
      have hla:=hka.same _ _ hl rfl
      have hkk:=hka.same _ _ hk rfl
      have hlta:w.heap.size+1<Wa.heap.size:=Nat.lt_of_lt_of_le hlt hka.size
      refine ⟨_,run_beginRound hla (by rw [hrec]),?_⟩
      have hl2:(Wa.putObj (w.heap.size+1) (.loop { rec .ready none with state:=.busy })).heap[w.heap.size+1]? = some (.loop { rec .ready none with state:=.busy }):=World.putObj_heap_same hlta
      have hk2:(Wa.putObj (w.heap.size+1) (.loop { rec .ready none with state:=.busy })).heap[w.heap.size]? = some (.deferred (some [])):=(World.putObj_heap_other ω).trans hkk
      have hw2:KeepsWalks Wa (Wa.putObj (w.heap.size+1) (.loop { rec .ready none with state:=.busy })):=KeepsWalks.putObj _ hla rfl
      refine wpIn_mono (hbody _ pre x a' _ (hI.putObj _ hia ω hla rfl) (hAx _ _ _ _ _ _ hax hla) (by rw [World.putObj_size];omega) hlen) ?_
      rintro e a3 W3 hp
      cases e with
      | normal=>
        obtain ⟨hk3,hi3⟩:=hp
        have hl3:=hk3.same _ _ hl2 rfl
        have hk4:=hk3.same _ _ hk2 rfl
        have hr:=run_endRound (P:=P) none hl3
        rw [hrec] at hr hl3 ⊢
        have hsz:w.heap.size+1<W3.heap.size:=(Array.getElem?_eq_some_iff.1 hl3).1
        exact ⟨_,_,hr,rfl,⟨⟨hI.putObj _ hi3 ω hl3 rfl,by rw [World.putObj_size];exact hsz⟩,World.putObj_heap_same hsz,(World.putObj_heap_other ω).trans hk4⟩,((hka.walks.trans hw2).trans hk3.walks).trans (KeepsWalks.putObj _ hl3 rfl)⟩
      | ret=>exact hp.elim
      | exit id=>exact hp.elim
      | goto t=>exact hp.elim
      | panic ch=>exact hp.elim
      | outgrown=>exact hp.elim
    · rintro e W2 ⟨⟨v,rfl⟩,xs,hS,⟨hi,hlt⟩,hl,hk⟩
      exact ⟨none,_,by have:=run_endLoop (P:=P) hl (by rw [hrec];simp);rw [hrec] at this;exact this,hdone _ xs _ (Nat.le_refl _) hS (hI.putObj _ hi ω hl rfl) ((World.putObj_heap_other ω).trans hk)⟩
structure GathO (g:Int×Int→Option (Option Nat)) (left:Lit→Bool) (K:List (Int×Int)):Prop where
  nd:K.Nodup
  wf:∀ p∈K,wfD p∧(g p).isSome=true∧left (kLD p)=false
  all:∀ p,wfD p→(g p).isSome=true→left (kLD p)=false→p∈K
theorem GathO.step {g:Int×Int→Option (Option Nat)} {left:Lit→Bool} {K:List (Int×Int)} (h:GathO g left K) {p:Int×Int} (hp:wfD p) (hg:(g p).isSome=true) (hl:left (kLD p)=true):GathO g (fun z=>left z&&!z.sameKey (kLD p)) (K++[p]) where
  nd:=List.nodup_append.2 ⟨h.nd,by simp,fun a ha b hb e=>by
    rw [List.mem_singleton] at hb;subst hb;subst e
    rw [(h.wf a ha).2.2] at hl;cases hl⟩
  wf q hq:=by
    rcases List.mem_append.1 hq with hq | hq
    · obtain ⟨h1,h2,h3⟩:=h.wf q hq
      exact ⟨h1,h2,by simp [h3]⟩
    · rw [List.mem_singleton] at hq;subst hq
      exact ⟨hp,hg,by simp [KO.same (i:=q) (j:=q) hp hp,show kLD q=KO.kl q from rfl]⟩
  all q hq hgq hlq:=by
    by_cases e:q=p
    · subst e;exact List.mem_append_right _ (List.mem_singleton.2 rfl)
    · refine List.mem_append_left _ (h.all q hq hgq ?_)
      have z:(kLD q).sameKey (kLD p)=false:=(KO.same (i:=p) (j:=q) hp hq).trans (decide_eq_false e)
      simpa [z] using hlq
def kvC (p:Int×Int):List Value:=[ν p.1,ν p.2]
def Li (g:Int×Int→Option (Option Nat)) (K:List (Int×Int)):Prop:=K.Nodup∧∀ p,p∈K↔wfD p∧(g p).isSome=true
theorem Mw {w:World} {Bm b n:Nat} {g:Int×Int→Option (Option Nat)} {L:List (Int×Int)} (hBm:Bm<w.heap.size) (hm:w.cell? ⟨Bm,0,none⟩=some (.map (some b))) (hown:MapG KO w b n g) (hL:∀ p,wfD p→(g p).isSome=true→p∈L) :
    SeqGives Fence.wide 4 Tryz.prog 83 #[π Bm] kVD (Li g) L.length w:=fun l J W hW hJ hY h0=>by
  have hm':=(hW.cell (p:=⟨Bm,0,none⟩) hBm).trans hm
  obtain ⟨D,h1,h2,h3⟩:=hown.mono hW
  refine callsIn_of_wp Tryz.func83 rfl trivial ?_ rfl
  simp only [Tryz.ntmps83,List.size_toArray,List.length_cons,List.length_nil,Nat.reduceAdd,Nat.reduceSub,Array.replicate_succ,Array.replicate_zero,List.push_toArray,List.append_toArray,List.nil_append,List.cons_append]
  have H2:=hid h2;have H3:=hid h3
  clear h2 h3
  gi_wp2_with (first
    | (gi_at_range;refine wpListIn_range_own _ rfl _ 63 rfl 68 62 LT υ63 _ b n _ rfl h1 ?_;intro w0 hrg0 hg0 hs0)
    | gi_in)
  go_frame
  gi_loopw [3] (fun _ wr=>∃ (left:Lit→Bool) (cnt:Nat) (K:List (Int×Int)),wr.ranges Tryz.prog 68 ptR b W.heap.size n D left cnt∧GathO g left K∧J K wr)
    (fun _ wr=>wr.rangeLeft b W.heap.size)
  case atStart=>
    refine ⟨_,_,[],hrg0,⟨List.nodup_nil,fun p h=>(by cases h),fun p hp hg hl=>?_⟩,hJ [] W w0 none h0 hg0 (fun r e=>by cases e)⟩
    have z:=H2.out p hp
    rw [hg] at z;rw [show KO.kl p=kLD p from rfl,hl] at z;cases z
  case round=>
    obtain ⟨left,cnt,K,hrg,hC,hJs⟩:=hrel
    gi_wp2_with (first
      | (gi_at_next;refine wpListIn_next_ranges _ rfl _ rfl 68 LT ptR kVD id (fun key kl hk=>by obtain ⟨p,_,e,_⟩:=Il hk;exact ⟨p,e⟩) (fun v _ _=>⟨v,rfl⟩) b W.heap.size n _ _ _ rfl hrg ?_ ?_)
      | gi_in)
    · intro hc0 hl0
      gi_wp2
      go_end0
      exact ⟨⟨_,rfl⟩,K,⟨hC.nd,fun p=>⟨fun hp=>⟨(hC.wf p hp).1,(hC.wf p hp).2.1⟩,fun hp=>hC.all p hp.1 hp.2 (hl0 _)⟩⟩,hJs⟩
    · intro x1 x2 c kl yd yp w2 cnt2 hkey hlk hv hat hrg2 hlt hg2 hs2 hen
      obtain ⟨x',hx,ex,rfl⟩:=Il hkey
      have e:x'=(x1,x2):=by
        simp only [kVD,Value.agg.injEq,Array.mk.injEq,List.cons.injEq,Value.int.injEq,true_and,and_true] at ex
        exact Prod.ext ex.1.symm ex.2.symm
      subst e
      have hgx:(g (x1,x2)).isSome=true:=(H2.out (x1,x2) hx).symm.trans (Maps.has_true_of_atKey hat)
      have hC2:=hC.step hx hgx hlk
      have hlen:K.length<L.length:=by
        have z:=DA (B:=L) hC2.nd (fun p hp=>hL p (hC2.wf p hp).1 (hC2.wf p hp).2.1)
        rw [List.length_append] at z
        exact z
      have hJ2:J K w2:=hJ K wr w2 (some W.heap.size) hJs hg2 (fun r e=>by cases e;exact ⟨Nat.le_refl _,hrg.iter_walk⟩)
      obtain ⟨B2,hB2⟩:∃ B2,B2=w2.heap.size:=⟨_,rfl⟩
      have hrg3:=hrg2
      clear hs2
      have Hhat:=hid hat
      clear hat
      have hJ3:J K (w2.alloc (.cells #[ν x1,ν x2] 68)):=hJ K w2 _ none hJ2 (World.grownBy_alloc w2 _ none) (fun r e=>by cases e)
      obtain ⟨fn,tmps,assign,body,hy,hR⟩:=hY K (x1,x2) _ hJ3 hlen
      clear hY hJ2 hJ3
      simp only [kVD] at hen hy ⊢
      gi_wp2
      refine hR.mono ?_
      rintro e W3 ⟨rfl,hJ3,hk3⟩
      gi_wp2
      have hrg4:=(hrg3.of_walks (KeepsWalks.alloc _ _)).of_walks hk3
      go_roundw
      case rel=>exact ⟨_,cnt2,K++[(x1,x2)],hrg4,hC2,hJ3⟩
      case measure=>rw [hrg4.left_eq,hrg.left_eq];exact hlt
def apI (w0:World) (K:List (Int×Int)) (W:World):Prop:=
  (∃ v,W.heap[w0.heap.size]? = some (.cells #[v] 103 (0,0))∧W.ownsRow w0.heap.size 68 2 v K.length (K.flatMap kvC))∧Below w0.heap.size w0 W
theorem Gz {W:World} {base:Nat} {e:TypeId} {size:Nat} {v:Value} {k:Nat} {xs:List Value} (h:W.ownsRow base e size v k xs) {j:Nat} {o:Obj} (hj:W.heap[j]? = some o) (ho:∀ c,o≠.cells c e (0,0)):v.ownBlock=none∨v.ownBlock≠some j:=by
  rcases h.2 with ⟨rfl,_⟩ | ⟨g,cap,cur,rfl,_,hgb,_⟩
  · exact .inl rfl
  · refine .inr fun e'=>?_
    have:g=j:=by simpa [Value.ownBlock] using e'
    subst this;rw [hgb] at hj;cases hj;exact ho cur rfl
theorem Oa (w0:World):OwnFrom (w0.heap.size+1) (apI w0):=fun K W W' row ⟨⟨v,hv,hr⟩,hb⟩ hg hrow=>by
  refine ⟨⟨v,(grownBy_keeps_cells hg (fun r e=>(hrow r e).2) hv rfl).trans hv,hr.kept hg ?_⟩,hb.grown hg hb.size (fun k e=>by have:=(hrow k e).1;omega)⟩
  cases row with
  | none=>rcases hr.2 with ⟨rfl,_⟩ | ⟨g,cap,cur,rfl,_,hgb,_⟩;exact .inl rfl;exact .inr (by simp [Value.ownBlock])
  | some r=>
    obtain ⟨_,o,ho,hc⟩:=hrow r rfl
    exact Gz hr ho (fun c e=>by rw [e] at hc;cases hc)
def Sw (B:Nat) (mk:Int×Int→Nat→Act) (x:Int×Int) (a':Act) (W:World):Prop:=∃ Bx,B≤Bx∧Blk W Bx 68 (kvC x)∧a'=mk x Bx
theorem PV {B:Nat} {mk:Int×Int→Nat→Act}:∀ (x:Int×Int) (a':Act) (X:World) (l:Nat) (o:Loop) (o':Obj),Sw B mk x a' X→X.heap[l]? = some (.loop o)→Sw B mk x a' (X.putObj l o'):=by
  rintro x a' X l o o' ⟨Bx,hB,hb,rfl⟩ hl
  refine ⟨Bx,hB,?_,rfl⟩
  have hne:Bx≠l:=by
    rintro rfl
    rw [show X.heap[Bx]? = _ from hb] at hl
    cases hl
  exact (World.putObj_heap_other hne).trans hb
theorem PK {W:World} {b:Nat} {t:TypeId} {x y:Value} (h:Blk W b t [x,y]):∀ j u,[x,y][j]? = some u→W.cell? ((⟨b,0,none⟩:Addr).add j)=some u
  | 0,u,e=>by cases e;exact h.cell (i:=0) (by simp)
  | 1,u,e=>by cases e;exact h.cell (i:=1) (by simp)
  | j+2,u,e=>by simp at e
theorem PW {W:World} {b:Nat} {v:Value} {t:TypeId} (h:W.heap[b]? = some (.cells #[v] t (0,0))):W.cell? ⟨b,0,none⟩=some v:=by simp [World.cell?,h]
theorem MZ {W:World} {b:Nat} {v:Value} {t:TypeId} (h:W.heap[b]? = some (.cells #[v] t (0,0))):W.frozen? ⟨b,0,none⟩=false:=by simp [World.frozen?,h]
theorem PX {W W':World} {base b k:Nat} {v:Value} {xs:List Value} (hr:W.ownsRow base 68 2 v k xs) (h:W.heap[b]? = some (.cells #[v] 103 (0,0))) (hg:W.grownBy W' v.ownBlock):W'.heap[b]? = some (.cells #[v] 103 (0,0)):=
  (hg.block b (Array.getElem?_eq_some_iff.1 h).1 (by
    rcases Gz hr h (fun c e=>by cases e) with e | e
    · rw [e];simp
    · exact fun e'=>e e'.symm)).trans h
theorem RB {W:World} {b:Nat} {v:Value} {t:TypeId} (v':Value) (h:W.heap[b]? = some (.cells #[v] t (0,0))):(W.setCell ⟨b,0,none⟩ v').heap[b]? = some (.cells #[v'] t (0,0)):=by
  obtain ⟨hlt,hk⟩:=Array.getElem?_eq_some_iff.1 h
  show (W.heap.modify b _)[b]? = _
  rw [Array.getElem?_eq_getElem (by rw [Array.size_modify];exact hlt),Array.getElem_modify_self,hk]
  rfl
theorem La {W:World} {base:Nat} {e:TypeId} {size:Nat} {v:Value} {k:Nat} {xs:List Value} (h:W.ownsRow base e size v k xs) {j:Nat} {o:Obj} (hj:v.ownBlock=some j) (ho:W.heap[j]? = some o):o.isCells=true:=by
  rcases h.2 with ⟨rfl,_⟩ | ⟨g,cap,cur,rfl,_,hgb,_⟩
  · simp [Value.ownBlock] at hj
  · have:g=j:=by simpa [Value.ownBlock] using hj
    subst this;rw [hgb] at ho;cases ho;rfl
theorem QB:(Tryz.prog.info? 68).map (fun i=>(i.zero,i.size,i.bytes))=some (some (.agg #[ν 0,ν 0]),2,16):=κ
theorem MY {w:World} {lb:Array Value} {S:List (Int×Int)→Prop} {N:Nat} (hN:N≤1000) (hseq:SeqGives Fence.wide 4 Tryz.prog 83 lb kVD S N w) :
    CallsIn Fence.wide 5 Tryz.prog 93 #[.slice none 0 0,.func (.func 83) #[] lb] w fun e w'=>
      ∃ v K,e=.returned v∧S K∧w'.ownsRow w.heap.size 68 2 v K.length (K.flatMap kvC)∧Below w.heap.size w w':=by
  refine callsIn_of_wp_marks Tryz.func93 rfl trivial ?_ rfl
  simp only [Tryz.ntmps93,List.size_toArray,List.length_cons,List.length_nil,Nat.reduceAdd,Nat.reduceSub,Array.replicate_succ,Array.replicate_zero,List.push_toArray,List.append_toArray,List.nil_append,List.cons_append]
  gi_wp2
  have hv0:(w.alloc (.cells #[.slice none 0 0] 103)).heap[w.heap.size]? = some (.cells #[.slice none 0 0] 103 (0,0)):=World.alloc_heap_new w _
  have b0:Below w.heap.size w (w.alloc (.cells #[.slice none 0 0] 103)):=(Below.refl _ w).alloc (Nat.le_refl _) _
  have hsz:(w.alloc (.cells #[.slice none 0 0] 103)).heap.size=w.heap.size+1:=by simp
  refine Jr rfl ω (gf:=83) (lb:=lb) rfl trivial (enters_of Tryz.func83 κ rfl)
    hseq b0 rfl (apI w) (by rw [hsz];exact Oa w) ⟨⟨_,hv0,⟨rfl,.inl ⟨rfl,rfl⟩⟩⟩,b0⟩
    (Sw (w.heap.size+1) (fun x Bx=>{ tmps:=#[.slice none 0 0,.func (.func 83) #[] lb,π w.heap.size,undef,.slice none 0 0,π Bx,.func (.func 83) #[] lb,kVD x,undef,undef,undef,undef,undef],defers:=[] })) PV ?assign ?body ?done
  case assign=>
    rintro l pre ⟨x1,x2⟩ W K hI hlt hK
    simp only [kVD]
    gi_wp2
    have hrow':=hI.1
    exact hK _ _ (KeepsOthers.alloc W _) ((Oa w).alloc _ hI) ⟨W.heap.size,by rw [hsz] at hlt;exact hlt,heap_alloc_new W _,rfl⟩
  case body=>
    rintro l pre ⟨x1,x2⟩ a' W ⟨⟨v,hv,hr⟩,hb⟩ ⟨Bx,hBx,hx,rfl⟩ hlt hlen
    have hc:W.cell? ⟨w.heap.size,0,none⟩=some v:=by simp [World.cell?,hv]
    have hf:W.frozen? ⟨w.heap.size,0,none⟩=false:=by simp [World.frozen?,hv]
    have c0:W.cell? ⟨Bx,0,none⟩=some (ν x1):=hx.cell (i:=0) (by simp [kvC])
    have c1:W.cell? ⟨Bx,1,none⟩=some (ν x2):=hx.cell (i:=1) (by simp [kvC])
    obtain ⟨i0,hi,hz0,hz1,hz2⟩:=info_parts QB
    have hsz1:=hb.size
    have hr1:(W.alloc (.cells #[ν x1,ν x2] 68)).ownsRow w.heap.size 68 2 v pre.length (pre.flatMap kvC):=hr.alloc _
    have hnew:Blk (W.alloc (.cells #[ν x1,ν x2] 68)) W.heap.size 68 [ν x1,ν x2]:=heap_alloc_new W _
    have hlt0:w.heap.size<W.heap.size:=(Array.getElem?_eq_some_iff.1 hv).1
    have hv1:=(Below.heap_alloc W (.cells #[ν x1,ν x2] 68) _ hlt0).trans hv
    simp only [kVD]
    gi_wp2_with (gi_at_builtin;refine wpListIn_append_own _ rfl _ _ 103 rfl w.heap.size 68 i0 (.agg #[ν 0,ν 0]) 2 16 υ103 hi hz0 hz1 hz2 rfl (by decide) _ _ _ rfl hr1 ⟨W.heap.size,0,none⟩ 1 1 [ν x1,ν x2] rfl rfl (PK hnew) (by simp [Value.oneCell']) (by unfold maxLen;omega) ω (by simp;omega) ?_;intro v' w3 hown3 hg3 hnil3;clear hnil3;have hg3':(W.alloc (.cells #[ν x1,ν x2] 68)).grownBy w3 v.ownBlock:=hg3;have hv3:=PX hr1 hv1 hg3';have hc3:=PW hv3;have hf3:=MZ hv3;obtain ⟨sa,sc,rfl,hO3⟩:=Fb hown3;clear hown3)
    have hgs:w3.grownBy (w3.setCell ⟨w.heap.size,0,none⟩ (.slice sa (pre.length+1) sc)) (some w.heap.size):=⟨rfl,rfl,rfl,(KeepsWalks.setCell w3 _ _).size,fun k _ hk=>Below.heap_setCell _ _ _ k (fun e=>hk (by rw [e]))⟩
    have hb3:Below w.heap.size w w3:=(hb.alloc hb.size _).grown hg3' (by simp;omega) (fun k e=>(hr1.lt k e).1)
    have hr4:(w3.setCell ⟨w.heap.size,0,none⟩ (.slice sa (pre.length+1) sc)).ownsRow w.heap.size 68 2 (.slice sa (pre.length+1) sc) (pre.length+1) (pre.flatMap kvC++[ν x1,ν x2]):=World.ownsRow.kept hO3 hgs (Gz hO3 hv3 (fun c e=>by cases e))
    refine ⟨(KeepsOthers.alloc W _).trans ((KeepsOthers.of_grownBy hg3' (fun j o=>La hr1)).trans (KeepsOthers.setCell w3 _ _)),⟨_,RB _ hv3,?_⟩,hb3.grown hgs hb3.size (fun k e=>by cases e;exact Nat.le_refl _)⟩
    rw [List.length_append,List.flatMap_append]
    exact hr4
  case done=>
    rintro D K W hD hS ⟨⟨v,hv,hr⟩,hb⟩ hk
    have hc:W.cell? ⟨w.heap.size,0,none⟩=some v:=by simp [World.cell?,hv]
    gi_wp2
    refine ⟨by simp,.inl ⟨_,_,rfl,run_takeDeferred hk,?_⟩⟩
    refine ⟨_,results_tmp rfl _ _ _,v,K,rfl,hS,hr.kept (grownBy_putObj' _ _ _) (Gz hr hk (fun c e=>by cases e)),hb.grown (grownBy_putObj' _ _ _) hb.size (fun k e=>by cases e;rw [hsz] at hD;omega)⟩
end
end Go.Proofs.YtcanemamnmmbcaaGreatDoor
