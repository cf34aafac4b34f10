/- The statements of stage 5: the document's Inside; NamesInside. -/
import Derived.Test.YtpdjnefgkcmdnaaGreatDoorPthI
namespace Go.Proofs.YtpdjnefgkcmdnaaGreatDoor
open Go.RowKit Go.Shelf
set_option linter.unusedSimpArgs false
set_option linter.unusedVariables false
set_option maxRecDepth 100000

theorem insF_none1 (o:Option (List ByteArray)):insF none o=false:=by cases o<;>rfl
set_option maxHeartbeats 2000000 in
theorem insideRef_any (X Y:List UInt8) (hX:X.length≤1000) (hY:Y.length≤1000) (w:World):Calls Tryz.prog 35 #[.string (strB X),.string (strB Y)] w fun e w'=>e=.returned (.bool (insF (pathO X) (pathO Y)))∧Below w.heap.size w w':=by
  have H1:=fun w1=>pathRef_any X hX w1
  have H2:=fun w1=>pathRef_any Y hY w1
  unfold PathP at H1 H2
  clear hX hY
  generalize pathO X=o1 at *
  generalize pathO Y=o2 at *
  cases o1 with
  | none=>
    simp only [erO,Option.getD_none,List.length_nil] at H1
    have HR:=hid (insF_none1 o2)
    generalize erO o2=er2 at *
    generalize o2.getD []=L2 at *
    have H1:=hid H1;have H2:=hid H2
    go_enter Tryz.func35,Tryz.ntmps35
    go_wp2_with (go_at_call 30;fail)
    refine (H1.out _).mono ?_
    rintro e w1 ⟨a1,c1,rfl,q1,b1⟩
    have B1:=hid b1
    clear b1 q1
    go_wp2_with (go_at_call 30;fail)
    refine (H2.out _).mono ?_
    rintro e w2 ⟨a2,c2,rfl,q2,b2⟩
    have B2:=hid (kept_trans B1.out b2)
    clear b2 q2
    go_wp2_with fail
    go_ret
    exact ⟨ret_bool HR.out.symm,B2.out⟩
  | some l=>
    simp only [erO,Option.getD_some] at H1
    cases o2 with
    | none=>
      simp only [erO,Option.getD_none,List.length_nil] at H2
      have H1:=hid H1;have H2:=hid H2
      go_enter Tryz.func35,Tryz.ntmps35
      go_wp2_with (go_at_call 30;fail)
      refine (H1.out _).mono ?_
      rintro e w1 ⟨a1,c1,rfl,q1,b1⟩
      have B1:=hid b1
      clear b1 q1
      go_wp2_with (go_at_call 30;fail)
      refine (H2.out _).mono ?_
      rintro e w2 ⟨a2,c2,rfl,q2,b2⟩
      have B2:=hid (kept_trans B1.out b2)
      clear b2 q2
      go_wp2_with fail
      go_ret
      exact ⟨rfl,B2.out⟩
    | some m=>
      simp only [erO,Option.getD_some] at H2
      have H1:=hid H1;have H2:=hid H2
      by_cases hml:m.length≤l.length
      · have hr:insF (some l) (some m)=decide (l.take m.length=m):=by show (decide _&&_)=_;rw [decide_eq_true hml];rfl
        have HR:=hid hr
        have i1:(m.length:Int)≤l.length:=by omega
        have d1:decide ((l.length:Int)<(m.length:Int))=false:=decide_eq_false (by omega)
        clear hr
        go_enter Tryz.func35,Tryz.ntmps35
        go_wp2_with (go_at_call 30;fail)
        refine (H1.out _).mono ?_
        rintro e w1 ⟨a1,c1,rfl,q1,b1⟩
        have B1:=hid b1;have Q1:=hid q1.row
        clear b1 q1
        go_wp2_with (go_at_call 30;fail)
        refine (H2.out _).mono ?_
        rintro e w2 ⟨a2,c2,rfl,q2,b2⟩
        have B2:=hid (kept_trans B1.out b2)
        have HA:=hid (show RowS w2 a1 c1 l from Q1.out.mono b2)
        have HB:=hid (show RowS w2 a2 c2 m from q2.row)
        have hm9:=rowS_len HB.out
        clear b2 q2
        go_wp2_with fail
        go_loopw [9] (fun i wr=>∃ k:Nat,k≤m.length∧i=.int .i64 k∧(∀ j (h:j<k) (h1:j<m.length) (h2:j<l.length),l[j]=m[j])∧Below w2.heap.size w2 wr) (fun i _=>m.length-(intOf i).toNat)
        case atStart=>exact ⟨0,by omega,rfl,(fun j h=>absurd h (by omega)),Below.refl _ _⟩
        case round=>
          obtain ⟨k,hk,rfl,heq,hbl⟩:=hrel
          have HEQ:=hid heq
          clear heq
          by_cases hk16:k<m.length
          · have hkl:k<l.length:=by omega
            obtain ⟨ba,oa,rfl,hba,hca⟩:=rowS_cells (HA.out.mono hbl) (by omega)
            obtain ⟨bb,ob,rfl,hbb,hcb⟩:=rowS_cells (HB.out.mono hbl) (by omega)
            have a0:=hca k hkl
            have b0:=hcb k hk16
            have ik:(k:Int)<m.length:=by omega
            have ikl:(k:Int)<l.length:=by omega
            have dk:decide ((k:Int)<(m.length:Int))=true:=decide_eq_true ik
            have hne:=fun (h:l[k]≠m[k])=>take_eq_false (l:=l) (m:=m) hk16 hml h
            have hst:=strEq_form l[k] m[k]
            have hxe:l[k]=m[k]→∀ j (h:j<k+1) (h1:j<m.length) (h2:j<l.length),l[j]=m[j]:=fun he j h h1 h2=>by
              rcases (by omega:j<k∨j=k) with g | rfl
              · exact HEQ.out j g h1 h2
              · exact he
            have HNE:=hid hne;have HXE:=hid hxe
            clear hca hcb hne hxe
            generalize l[k]=x at *
            generalize m[k]=y at *
            have HBL:=hid hbl
            clear hbl
            by_cases hxy:x=y
            · rw [decide_eq_true hxy] at hst
              have HX:=hid (HXE.out hxy)
              clear hxy
              go_wp2
              go_quiet (fail)
              go_wp2
              go_roundw
              case rel=>exact ⟨k+1,by omega,by go_num,HX.out,bel_drewN HBL.out _⟩
              case measure=>simp [intOf];omega
            · rw [decide_eq_false hxy] at hst
              have HN:=hid (HNE.out hxy)
              clear hxy
              go_wp2
              go_quiet (fail)
              go_wp2
              go_ret
              exact ⟨ret_bool (by rw [HR.out];exact (decide_eq_false HN.out).symm),kept_trans B2.out (bel_drewN HBL.out _)⟩
          · obtain rfl:k=m.length:=by omega
            have dk:decide ((m.length:Int)<(m.length:Int))=false:=decide_eq_false (by omega)
            have HT:=hid (take_eq_true (l:=l) (m:=m) hml (fun j h1=>HEQ.out j h1 h1 (by omega)))
            go_wp2_with fail
            go_ret
            exact ⟨ret_bool (by rw [HR.out];exact (decide_eq_true HT.out).symm),kept_trans B2.out hbl⟩
      · have hr:insF (some l) (some m)=false:=by show (decide _&&_)=_;rw [decide_eq_false hml];rfl
        have HR:=hid hr
        have i1:(l.length:Int)<m.length:=by omega
        have d1:decide ((l.length:Int)<(m.length:Int))=true:=decide_eq_true (by omega)
        clear hr
        go_enter Tryz.func35,Tryz.ntmps35
        go_wp2_with (go_at_call 30;fail)
        refine (H1.out _).mono ?_
        rintro e w1 ⟨a1,c1,rfl,q1,b1⟩
        have B1:=hid b1
        clear b1 q1
        go_wp2_with (go_at_call 30;fail)
        refine (H2.out _).mono ?_
        rintro e w2 ⟨a2,c2,rfl,q2,b2⟩
        have B2:=hid (kept_trans B1.out b2)
        clear b2 q2
        go_wp2_with fail
        go_ret
        exact ⟨ret_bool HR.out.symm,B2.out⟩
