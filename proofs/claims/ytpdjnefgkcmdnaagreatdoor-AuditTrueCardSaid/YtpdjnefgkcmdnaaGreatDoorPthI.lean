/- The statements of stage 5: NamesInside. -/
import Derived.Test.YtpdjnefgkcmdnaaGreatDoorPthH
namespace Go.Proofs.YtpdjnefgkcmdnaaGreatDoor
open Go.RowKit Go.Shelf
set_option linter.unusedSimpArgs false
set_option linter.unusedVariables false
set_option maxRecDepth 100000

/-- is a path inside another one? -/
def insF:Option (List ByteArray)→Option (List ByteArray)→Bool
  | some l,some m=>decide (m.length≤l.length)&&decide (l.take m.length=m)
  | _,_=>false
theorem strEq_form (a b:ByteArray):(a.toList == b.toList)=decide (a=b):=eqN_str a b
theorem take_eq_false {l m:List ByteArray} {k:Nat} (h1:k<m.length) (h2:m.length≤l.length) (h:l[k]'(by omega)≠m[k]):l.take m.length≠m:=by
  intro e
  apply h
  have h3:(l.take m.length)[k]? = m[k]?:=by rw [e]
  rw [List.getElem?_take,if_pos h1,List.getElem?_eq_getElem (by omega),List.getElem?_eq_getElem h1] at h3
  exact Option.some.inj h3
theorem take_eq_true {l m:List ByteArray} (h2:m.length≤l.length) (h:∀ k (h1:k<m.length),l[k]'(by omega)=m[k]):l.take m.length=m:=by
  apply List.ext_getElem
  · rw [List.length_take];omega
  · intro i h3 h4
    rw [List.getElem_take];exact h i h4

set_option maxHeartbeats 2000000 in
theorem equalS_any (l m:List ByteArray) (a b:Option Addr) (c d:Nat) (w:World) (hl:l.length=m.length) (ha:RowS w a c l) (hb:RowS w b d m) :
    Calls Tryz.prog 50 #[.slice a m.length c,.slice b m.length d] w fun e w'=>e=.returned (.bool (decide (l.take m.length=m)))∧Below w.heap.size w w':=by
  have HA:=hid ha;have HB:=hid hb;have HLL:=hid hl
  have hl9:=rowS_len hb
  clear ha hb
  go_enter Tryz.func50,Tryz.ntmps50
  clear hl
  go_wp2_with fail
  go_loopw [13] (fun i wr=>∃ k:Nat,k≤m.length∧i=.int .i64 k∧(∀ j (h:j<k) (h1:j<m.length) (h2:j<l.length),l[j]=m[j])∧Below w.heap.size w wr) (fun i _=>m.length-(intOf i).toNat)
  case atStart=>exact ⟨0,by omega,rfl,(fun j h=>absurd h (by omega)),Below.refl _ _⟩
  case round=>
    obtain ⟨k,hk,rfl,heq,hbl⟩:=hrel
    have HEQ:=hid heq
    clear heq
    by_cases hk16:k<m.length
    · have hkl:k<l.length:=by rw [HLL.out];exact hk16
      obtain ⟨ba,oa,rfl,hba,hca⟩:=rowS_cells (HA.out.mono hbl) (by omega)
      obtain ⟨bb,ob,rfl,hbb,hcb⟩:=rowS_cells (HB.out.mono hbl) (by omega)
      have a0:=hca k hkl
      have b0:=hcb k hk16
      have ik:(k:Int)<m.length:=by omega
      have dk:decide ((k:Int)<(m.length:Int))=true:=decide_eq_true ik
      have hne:=fun (h:l[k]≠m[k])=>take_eq_false (l:=l) (m:=m) hk16 (by have:=HLL.out;omega) h
      have hst:=strEq_form l[k] m[k]
      have hxe:l[k]=m[k]→∀ j (h:j<k+1) (h1:j<m.length) (h2:j<l.length),l[j]=m[j]:=fun he j h h1 h2=>by
        rcases (by omega:j<k∨j=k) with g | rfl
        · exact HEQ.out j g h1 h2
        · exact he
      have HNE:=hid hne;have HXE:=hid hxe
      clear hca hcb hne hxe
      generalize l[k]=x at *
      generalize m[k]=y at *
      have HBL:=hid hbl
      clear hbl
      by_cases hxy:x=y
      · rw [decide_eq_true hxy] at hst
        have HX:=hid (HXE.out hxy)
        clear hxy
        go_wp2
        go_quiet (fail)
        go_wp2
        go_roundw
        case rel=>exact ⟨k+1,by omega,by go_num,HX.out,bel_drewN HBL.out _⟩
        case measure=>simp [intOf];omega
      · rw [decide_eq_false hxy] at hst
        have HN:=hid (HNE.out hxy)
        clear hxy
        go_wp2
        go_quiet (fail)
        go_wp2
        go_ret
        exact ⟨ret_bool (decide_eq_false HN.out).symm,bel_drewN HBL.out _⟩
    · obtain rfl:k=m.length:=by omega
      have dk:decide ((m.length:Int)<(m.length:Int))=false:=decide_eq_false (by omega)
      have HT:=hid (take_eq_true (l:=l) (m:=m) (by have:=HLL.out;omega) (fun j h1=>HEQ.out j h1 h1 (by have:=HLL.out;omega)))
      go_wp2_with fail
      go_ret
      exact ⟨ret_bool (decide_eq_true HT.out).symm,hbl⟩
theorem take_take_len (l:List ByteArray) (n:Nat):(l.take n).take n=l.take n:=by rw [List.take_take,Nat.min_self]

set_option maxHeartbeats 2000000 in
theorem inside_anyS (X Y:List UInt8) (hX:X.length≤1000) (hY:Y.length≤1000) (w:World):Calls Tryz.prog 79 #[.string (strB X),.string (strB Y)] w fun e w'=>e=.returned (.bool (insF (pathO X) (pathO Y)))∧Below w.heap.size w w':=by
  have H1:=fun w1=>path_any X hX w1
  have H2:=fun w1=>path_any Y hY w1
  unfold PathP at H1 H2
  clear hX hY
  generalize pathO X=o1 at *
  generalize pathO Y=o2 at *
  cases o1 with
  | none=>
    simp only [erO,Option.getD_none,List.length_nil] at H1
    have HR:Hid (insF none o2=false):=by cases o2<;>rfl
    generalize erO o2=er2 at *
    generalize o2.getD []=L2 at *
    have H1:=hid H1;have H2:=hid H2
    go_enter Tryz.func79,Tryz.ntmps79
    go_wp2_with (go_at_call 77;fail)
    refine (H1.out _).mono ?_
    rintro e w1 ⟨a1,c1,rfl,q1,b1⟩
    have B1:=hid b1
    clear b1 q1
    go_wp2_with (go_at_call 77;fail)
    refine (H2.out _).mono ?_
    rintro e w2 ⟨a2,c2,rfl,q2,b2⟩
    have B2:=hid (kept_trans B1.out b2)
    clear b2 q2
    go_wp2_with fail
    go_ret
    exact ⟨ret_bool HR.out.symm,B2.out⟩
  | some l=>
    simp only [erO,Option.getD_some] at H1
    cases o2 with
    | none=>
      simp only [erO,Option.getD_none,List.length_nil] at H2
      have H1:=hid H1;have H2:=hid H2
      go_enter Tryz.func79,Tryz.ntmps79
      go_wp2_with (go_at_call 77;fail)
      refine (H1.out _).mono ?_
      rintro e w1 ⟨a1,c1,rfl,q1,b1⟩
      have B1:=hid b1
      clear b1 q1
      go_wp2_with (go_at_call 77;fail)
      refine (H2.out _).mono ?_
      rintro e w2 ⟨a2,c2,rfl,q2,b2⟩
      have B2:=hid (kept_trans B1.out b2)
      clear b2 q2
      go_wp2_with fail
      go_ret
      exact ⟨rfl,B2.out⟩
    | some m=>
      simp only [erO,Option.getD_some] at H2
      have H1:=hid H1;have H2:=hid H2
      by_cases hml:m.length≤l.length
      · have hr:insF (some l) (some m)=decide (l.take m.length=m):=by show (decide _&&_)=_;rw [decide_eq_true hml];rfl
        have HR:=hid hr
        have i1:(m.length:Int)≤l.length:=by omega
        have d1:decide ((l.length:Int)<(m.length:Int))=false:=decide_eq_false (by omega)
        have htl:(l.take m.length).length=m.length:=by rw [List.length_take];omega
        have HTL:=hid htl
        clear hr htl
        go_enter Tryz.func79,Tryz.ntmps79
        go_wp2_with (go_at_call 77;fail)
        refine (H1.out _).mono ?_
        rintro e w1 ⟨a1,c1,rfl,q1,b1⟩
        have B1:=hid b1;have Q1:=hid q1.row
        clear b1 q1
        go_wp2_with (go_at_call 77;fail)
        refine (H2.out _).mono ?_
        rintro e w2 ⟨a2,c2,rfl,q2,b2⟩
        have B2:=hid (kept_trans B1.out b2)
        have r1:RowS w2 a1 c1 l:=Q1.out.mono b2
        have R2:=hid (show RowS w2 a2 c2 m from q2.row)
        have hlc:l.length≤c1:=r1.2.1
        have i2:(m.length:Int)≤c1:=by omega
        have r1':RowS w2 a1 c1 (l.take m.length++l.drop m.length):=by rw [List.take_append_drop];exact r1
        have r3:RowS w2 a1 c1 (l.take m.length):=by
          cases a1 with
          | some ad=>exact rowS_head r1'
          | none=>
            have h0:=r1.2.2.2.1 rfl
            have:l.length=0:=by have:=r1.2.1;omega
            have hl0:l=[]:=List.eq_nil_of_length_eq_zero this
            subst hl0
            simp only [List.take_nil]
            exact r1
        have HE:=equalS_any (l.take m.length) m a1 a2 c1 c2 w2 HTL.out r3 R2.out
        rw [take_take_len] at HE
        have HE:=hid HE
        clear b2 q2 r1 r1' r3
        go_wp2_with (go_at_call 50;fail)
        refine (HE.out).mono ?_
        rintro e w3 ⟨rfl,b3⟩
        have B3:=hid (kept_trans B2.out b3)
        clear b3
        generalize decide (l.take m.length=m)=v at *
        go_wp2_with fail
        go_ret
        exact ⟨ret_bool HR.out.symm,B3.out⟩
      · have hr:insF (some l) (some m)=false:=by show (decide _&&_)=_;rw [decide_eq_false hml];rfl
        have HR:=hid hr
        have i1:(l.length:Int)<m.length:=by omega
        have d1:decide ((l.length:Int)<(m.length:Int))=true:=decide_eq_true (by omega)
        clear hr
        go_enter Tryz.func79,Tryz.ntmps79
        go_wp2_with (go_at_call 77;fail)
        refine (H1.out _).mono ?_
        rintro e w1 ⟨a1,c1,rfl,q1,b1⟩
        have B1:=hid b1
        clear b1 q1
        go_wp2_with (go_at_call 77;fail)
        refine (H2.out _).mono ?_
        rintro e w2 ⟨a2,c2,rfl,q2,b2⟩
        have B2:=hid (kept_trans B1.out b2)
        clear b2 q2
        go_wp2_with fail
        go_ret
        exact ⟨ret_bool HR.out.symm,B2.out⟩
end Go.Proofs.YtpdjnefgkcmdnaaGreatDoor
