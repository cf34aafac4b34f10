/- Paths: the document's Path. -/
import Derived.Test.YtpdjnefgkcmdnaaGreatDoorPthD
namespace Go.Proofs.YtpdjnefgkcmdnaaGreatDoor
open Go.RowKit Go.Shelf
set_option linter.unusedSimpArgs false
set_option linter.unusedVariables false
set_option maxRecDepth 100000

theorem take_drop_succ (X:List UInt8) {f i:Nat} (hf:f≤i) (hi:i<X.length):(X.drop f).take (i+1-f)=(X.drop f).take (i-f)++[X[i]]:=by
  rw [show i+1-f=(i-f)+1 by omega,List.take_succ_eq_append_getElem (by rw [List.length_drop];omega)]
  congr 2
  rw [List.getElem_drop];congr 1;omega
theorem drop_split (X:List UInt8) {f i:Nat} (hf:f≤i) (hi:i<X.length):X.drop f=(X.drop f).take (i-f)++X[i]::X.drop (i+1):=by
  have h1:X.drop f=(X.drop f).take (i-f)++(X.drop f).drop (i-f):=(List.take_append_drop _ _).symm
  rw [List.drop_drop,show f+(i-f)=i by omega,List.drop_eq_getElem_cons hi] at h1
  exact h1
theorem namesO_bad {rest:List UInt8} {out:List (List UInt8)} {p:List UInt8} {r:List (List UInt8)} (hp:pieces rest=out++p::r) (h:mayN (strB p)=false∨out.length=6):namesO rest=none:=by
  refine if_neg (fun q=>?_)
  rcases h with h | h
  · have:=List.all_eq_true.1 q.2 (strB p) (List.mem_map.2 ⟨p,by rw [hp];simp,rfl⟩)
    rw [h] at this;cases this
  · have:=q.1
    rw [hp] at this;simp at this;omega
theorem namesO_good {rest:List UInt8} {out:List (List UInt8)} (hp:pieces rest=out) (h6:out.length≤6) (h:(out.map strB).all mayN=true):namesO rest=some (out.map strB):=by
  subst hp;exact if_pos ⟨h6,h⟩

set_option maxHeartbeats 4000000 in
set_option maxRecDepth 100000 in
theorem pathRef_no (X:List UInt8) (hX:X.length≤1000) (hl:0<X.length) (hb:X[0]≠47) (w:World):Calls Tryz.prog 30 #[.string (strB X)] w fun e w'=>e=.returned (.tuple #[.slice none 0 0,.int .i64 15])∧w=w':=by
  have e1:((strB X).toList == [(47:UInt8)])=false:=by
    rw [list_strB]
    refine beq_eq_false_iff_ne.2 (fun h=>hb ?_)
    subst h;rfl
  have hsz:=strB_size X
  have e2:((X.length:Int) == 0)=false:=by rw [beq_eq_false_iff_ne];omega
  have hg:∀ h',(strB X)[0]'h'=X[0]:=fun h'=>rfl
  have hbi:((X[0].toNat:Int) == 47)=false:=by
    rw [beq_eq_false_iff_ne];intro h;exact hb (UInt8.toNat_inj.1 (by rw [show X[0].toNat=47 by omega];rfl))
  clear hb
  go_enter Tryz.func30,Tryz.ntmps30
  go_wp2_with fail
  go_ret2
  exact ⟨rfl,rfl⟩

set_option maxHeartbeats 4000000 in
set_option maxRecDepth 100000 in
theorem pathRef_main (X:List UInt8) (hX:X.length≤1000) (hne:X≠[47]) (hl:0<X.length) (hb:X[0]=47) (rest:List UInt8) (hrest:X.drop 1=rest) (w:World):Calls Tryz.prog 30 #[.string (strB X)] w (PathP w (namesO rest)):=by
  have HREST:=hid hrest
  clear hrest
  have e1:((strB X).toList == [(47:UInt8)])=false:=by rw [list_strB];simpa using hne
  have hsz:=strB_size X
  have e2:((X.length:Int) == 0)=false:=by rw [beq_eq_false_iff_ne];omega
  have hg:∀ h',(strB X)[0]'h'=47:=fun h'=>hb
  clear hne hb
  go_enter Tryz.func30,Tryz.ntmps30
  go_wp2_with fail
  clear hg e1 e2
  go_loopw [4,5,6] (fun o f i wr=>∃ (j k:Nat) (out:List (List UInt8)) (a1:Option Addr) (c1 m:Nat),i=.int .i64 j∧f=.int .i64 k∧o=.slice a1 m c1∧out.length=m∧m≤6∧(out.map strB).all mayN=true∧OwnS wr w.heap.size a1 c1 (out.map strB)∧Below w.heap.size w wr∧1≤k ∧
      ((k≤j∧j≤X.length∧pieces rest=out++pieces (X.drop k)∧(∀ x∈(X.drop k).take (j-k),x≠47))∨(j=X.length+1∧k=X.length+1∧pieces rest=out))) (fun _ _ i _=>X.length+1-(intOf i).toNat)
  case atStart=>exact ⟨1,1,[],none,0,0,by first | rfl | go_num,by first | rfl | go_num,rfl,rfl,by omega,rfl,Own.nil _ _ _ _,Below.refl _ _,by omega,.inl ⟨by omega,by omega,by rw [HREST.out];rfl,by simp⟩⟩
  case round=>
    obtain ⟨j,k,out,a1,c1,m,rfl,rfl,rfl,hm,hm6,hall,ho,hb,hk1,hor⟩:=hrel
    have HM:=hid hm;have HALL:=hid hall;have HO:=hid ho;have HB:=hid hb
    clear hm hall ho hb
    rcases hor with ⟨hkj,hjl,hpc,hno⟩ | ⟨hj,hk,hpc⟩
    · have HPC:=hid hpc;have HNO:=hid hno
      have ij:(j:Int)≤X.length:=by omega
      have e3:IntKind.i64.wrap ((j:Int)+1)=j+1:=IntWalk.i64_in _ (by omega)
      clear hpc hno
      by_cases hlt:j<X.length
      · have ijl:(j:Int)<X.length:=by omega
        have dj:decide ((j:Int)<(X.length:Int))=true:=decide_eq_true ijl
        have hts:=take_drop_succ X hkj hlt
        have hds:=drop_split X hkj hlt
        by_cases h47:X[j]=47
        · have hpa:=pieces_at ((X.drop k).take (j-k)) (X.drop (j+1)) HNO.out
          rw [h47] at hds
          rw [← hds] at hpa
          have HPA:=hid hpa
          have hgj:∀ h',(strB X)[j]'h'=47:=fun h'=>h47
          have hext:(strB X).extract k j=strB ((X.drop k).take (j-k)):=ext_str (strB X) k j
          clear hpa hts hds h47
          have HMN:=fun w1=>mayNRef_any (strB ((X.drop k).take (j-k))) w1
          have HPC2:=HPC.out
          rw [HPA.out] at HPC2
          generalize hpp:(X.drop k).take (j-k)=p at *
          have ikj:(k:Int)≤j:=by omega
          cases hmy:mayN (strB p) with
          | false=>
            rw [hmy] at HMN
            have HN:=hid (namesO_bad HPC2 (.inl hmy))
            have HMN:=hid HMN
            clear hmy HPC2 hpp
            go_wp2_with (go_at_call 46;refine (HMN.out _).mono ?_;rintro e w1 ⟨rfl,rfl⟩)
            go_ret2
            exact PathP_none HN.out rfl HB.out
          | true=>
            rw [hmy] at HMN
            have HMN:=hid HMN
            by_cases h6:m=6
            · have HN:=hid (namesO_bad HPC2 (.inr (by rw [HM.out];exact h6)))
              subst h6
              clear hmy HPC2 hpp
              go_wp2_with (go_at_call 46;refine (HMN.out _).mono ?_;rintro e w1 ⟨rfl,rfl⟩)
              go_ret2
              exact PathP_none HN.out rfl HB.out
            · have em:((m:Int) == 6)=false:=by rw [beq_eq_false_iff_ne];omega
              have HALL2:Hid (((out++[p]).map strB).all mayN=true):=hid (by rw [List.map_append,List.all_append,HALL.out];simp [hmy])
              have HPC3:=hid HPC2
              have R1:=hid (row_blkO (blk_newO (W:=wr) rfl 9 [.string (strB p)]) 1 1 rfl (by omega))
              have HO1:Own wr w.heap.size 9 1 a1 m c1 ((out.map strB).map strV):=by have:=HO.out;unfold OwnS at this;rw [List.length_map,HM.out] at this;exact this
              have HO2:=hid HO1
              have hm5:m≤5:=by omega
              clear hmy HPC2 hpp HO1
              go_wp2_with (first
                | (go_at_call 46;refine (HMN.out _).mono ?_;rintro e w1 ⟨rfl,rfl⟩)
                | (at_builtin;(refine wpl_append rfl (.tmp 46) (.tmp 51) rfl ES w.heap.size rfl rfl (HO2.out.alloc (.cells #[.string (strB p)] 9)) R1.out (by intro u hu;simp only [List.mem_cons,List.not_mem_nil,or_false] at hu;subst hu;rfl) (by omega) (by omega) (Nat.le_trans HB.out.size (by simp)) ?_);intro a2 c2 w2 o2 g2 b2;have O2:=hid o2;have B2:=hid ((HB.out.alloc HB.out.size (.cells #[.string (strB p)] 9)).trans b2);clear o2 g2 b2))
              go_roundw
              case rel=>
                refine ⟨j+1,j+1,out++[p],a2,c2,m+1,by go_num,by go_num,rfl,by rw [List.length_append,HM.out];rfl,by omega,HALL2.out,?_,B2.out,by omega,.inl ⟨by omega,by omega,by rw [HPC3.out,List.append_assoc];rfl,by simp⟩⟩
                have:=O2.out
                unfold OwnS
                rw [List.length_map,List.length_append,HM.out,List.map_append,List.map_append]
                exact this
              case measure=>simp [intOf]<;>omega
        · obtain ⟨y,hy⟩:∃ y,y=X[j]:=⟨_,rfl⟩
          have hgj:∀ h',(strB X)[j]'h'=y:=fun h'=>hy.symm
          have hbi:((y.toNat:Int) == 47)=false:=by
            rw [beq_eq_false_iff_ne];intro h;exact h47 (by rw [← hy];exact UInt8.toNat_inj.1 (by rw [show y.toNat=47 by omega];rfl))
          have HNO2:Hid (∀ x∈(X.drop k).take (j+1-k),x≠47):=hid (by
            rw [hts]
            intro x hx
            rcases List.mem_append.1 hx with h | h
            · exact HNO.out x h
            · rw [List.mem_singleton.1 h];exact h47)
          clear hts hds h47 hy
          go_wp2_with fail
          go_roundw
          case rel=>exact ⟨j+1,k,out,a1,c1,m,by go_num,rfl,rfl,HM.out,hm6,HALL.out,HO.out,HB.out,hk1,.inl ⟨by omega,by omega,HPC.out,HNO2.out⟩⟩
          case measure=>simp [intOf];omega
      · obtain rfl:j=X.length:=by omega
        have dj:decide ((X.length:Int)<(X.length:Int))=false:=decide_eq_false (by omega)
        have hall0:(X.drop k).take (X.length-k)=X.drop k:=List.take_of_length_le (by rw [List.length_drop];omega)
        have hpa:pieces (X.drop k)=[(X.drop k).take (X.length-k)]:=by rw [hall0];exact pieces_none (by have:=HNO.out;rw [hall0] at this;exact this)
        have hext:(strB X).extract k X.length=strB ((X.drop k).take (X.length-k)):=ext_str (strB X) k X.length
        have HPA:=hid hpa
        clear hpa hall0
        have HMN:=fun w1=>mayNRef_any (strB ((X.drop k).take (X.length-k))) w1
        have HPC2:=HPC.out
        rw [HPA.out] at HPC2
        generalize hpp:(X.drop k).take (X.length-k)=p at *
        have ikj:(k:Int)≤X.length:=by omega
        cases hmy:mayN (strB p) with
        | false=>
          rw [hmy] at HMN
          have HN:=hid (namesO_bad HPC2 (.inl hmy))
          have HMN:=hid HMN
          clear hmy HPC2 hpp
          go_wp2_with (go_at_call 46;refine (HMN.out _).mono ?_;rintro e w1 ⟨rfl,rfl⟩)
          go_ret2
          exact PathP_none HN.out rfl HB.out
        | true=>
          rw [hmy] at HMN
          have HMN:=hid HMN
          by_cases h6:m=6
          · have HN:=hid (namesO_bad HPC2 (.inr (by rw [HM.out];exact h6)))
            subst h6
            clear hmy HPC2 hpp
            go_wp2_with (go_at_call 46;refine (HMN.out _).mono ?_;rintro e w1 ⟨rfl,rfl⟩)
            go_ret2
            exact PathP_none HN.out rfl HB.out
          · have em:((m:Int) == 6)=false:=by rw [beq_eq_false_iff_ne];omega
            have HALL2:Hid (((out++[p]).map strB).all mayN=true):=hid (by rw [List.map_append,List.all_append,HALL.out];simp [hmy])
            have HPC3:=hid HPC2
            have R1:=hid (row_blkO (blk_newO (W:=wr) rfl 9 [.string (strB p)]) 1 1 rfl (by omega))
            have HO1:Own wr w.heap.size 9 1 a1 m c1 ((out.map strB).map strV):=by have:=HO.out;unfold OwnS at this;rw [List.length_map,HM.out] at this;exact this
            have HO2:=hid HO1
            have hm5:m≤5:=by omega
            clear hmy HPC2 hpp HO1
            go_wp2_with (first
              | (go_at_call 46;refine (HMN.out _).mono ?_;rintro e w1 ⟨rfl,rfl⟩)
              | (at_builtin;(refine wpl_append rfl (.tmp 46) (.tmp 51) rfl ES w.heap.size rfl rfl (HO2.out.alloc (.cells #[.string (strB p)] 9)) R1.out (by intro u hu;simp only [List.mem_cons,List.not_mem_nil,or_false] at hu;subst hu;rfl) (by omega) (by omega) (Nat.le_trans HB.out.size (by simp)) ?_);intro a2 c2 w2 o2 g2 b2;have O2:=hid o2;have B2:=hid ((HB.out.alloc HB.out.size (.cells #[.string (strB p)] 9)).trans b2);clear o2 g2 b2))
            go_roundw
            case rel=>
              refine ⟨X.length+1,X.length+1,out++[p],a2,c2,m+1,by go_num,by go_num,rfl,by rw [List.length_append,HM.out];rfl,by omega,HALL2.out,?_,B2.out,by omega,.inr ⟨rfl,rfl,HPC3.out⟩⟩
              have:=O2.out
              unfold OwnS
              rw [List.length_map,List.length_append,HM.out,List.map_append,List.map_append]
              exact this
            case measure=>simp [intOf]<;>omega
    · have dj:decide ((j:Int)≤(X.length:Int))=false:=decide_eq_false (by omega)
      have ij:¬ (j:Int)≤X.length:=by omega
      have HN:=hid (namesO_good hpc (by rw [HM.out];exact hm6) HALL.out)
      have hml:m=(out.map strB).length:=by rw [List.length_map];exact HM.out.symm
      have HML:=hid hml
      clear hpc hj hk hml
      go_wp2_with fail
      go_ret2
      exact PathP_some HN.out (by rw [HML.out];rfl) HO.out HB.out

theorem pathRef_any (X:List UInt8) (hX:X.length≤1000) (w:World):Calls Tryz.prog 30 #[.string (strB X)] w (PathP w (pathO X)):=by
  by_cases h0:X=[47]
  · subst h0
    have HO:Hid (pathO [47]=some []):=if_pos rfl
    have hl:=list_strB [47]
    go_enter Tryz.func30,Tryz.ntmps30
    go_wp2_with fail
    go_ret2
    exact PathP_root HO.out rfl (Below.refl _ _)
  have hp:pathO X=restO X:=if_neg h0
  cases X with
  | nil=>
    have e1:((strB []).toList == [(47:UInt8)])=false:=by rw [list_strB];rfl
    have hsz:=strB_size []
    have HO:=hid (show pathO []=none from hp)
    clear hp h0
    go_enter Tryz.func30,Tryz.ntmps30
    go_wp2_with fail
    go_ret2
    exact PathP_none HO.out rfl (Below.refl _ _)
  | cons b r=>
    by_cases hb:b=47
    · rw [hp,show restO (b::r)=namesO r by simp [restO,hb]]
      exact pathRef_main (b::r) hX h0 (by simp) hb r rfl w
    · rw [hp,show restO (b::r)=none by simp [restO,hb]]
      exact (pathRef_no (b::r) hX (by simp) hb w).mono fun e w' h=>PathP_none rfl h.1 (by rw [h.2];exact Below.refl _ _)
end Go.Proofs.YtpdjnefgkcmdnaaGreatDoor
