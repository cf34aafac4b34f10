/- Names: the document's May. -/
import Derived.Test.YtpdjnefgkcmdnaaGreatDoorNameA
namespace Go.Proofs.YtpdjnefgkcmdnaaGreatDoor
open Go.RowKit Go.Shelf
set_option linter.unusedSimpArgs false
set_option linter.unusedVariables false
set_option maxRecDepth 100000

set_option maxHeartbeats 2000000 in
theorem mayNRef_any (s:ByteArray) (w:World):Calls Tryz.prog 46 #[.string s] w fun e w'=>e=.returned (.bool (mayN s))∧w=w':=by
  by_cases h0:s=⟨#[]⟩
  · subst h0
    rw [show mayN ⟨#[]⟩=false from by decide +kernel]
    go_enter Tryz.func46,Tryz.ntmps46
    go_wp2
    go_ret
    exact ⟨rfl,rfl⟩
  have h1:=lenN_of h0
  by_cases h4:s.size≤12
  · have d4:decide (12<(s.size:Int))=false:=decide_eq_false (by omega)
    have d1:decide ((s.size:Int)<1)=false:=decide_eq_false (by omega)
    by_cases h2:s=⟨#[46]⟩
    · subst h2
      rw [show mayN ⟨#[46]⟩=false from by decide +kernel]
      clear h0 h1 h4 d4 d1
      go_enter Tryz.func46,Tryz.ntmps46
      go_wp2
      go_ret
      exact ⟨rfl,rfl⟩
    have e2:=eqN_str s ⟨#[46]⟩
    rw [decide_eq_false h2,list1] at e2
    by_cases h3:s=⟨#[46,46]⟩
    · subst h3
      rw [show mayN ⟨#[46,46]⟩=false from by decide +kernel]
      clear h0 h1 h2 h4 d4 d1 e2
      go_enter Tryz.func46,Tryz.ntmps46
      go_wp2
      go_ret
      exact ⟨rfl,rfl⟩
    have e3:=eqN_str s ⟨#[46,46]⟩
    rw [decide_eq_false h3,list2] at e3
    have hm:mayN s=allN s:=by unfold mayN;rw [decide_eq_true h1,decide_eq_true h4,decide_eq_false h2,decide_eq_false h3];simp
    rw [hm]
    clear hm h0 h2 h3
    go_enter Tryz.func46,Tryz.ntmps46
    go_wp2
    go_loopw [3] (fun v wr=>∃ pos:Nat,wr=w∧v=.int .i64 pos∧(pos≤s.size∧(s.data.toList.take pos).all (fun b=>okN (b.toNat:Int))=true)) (fun v _=>s.size-(intOf v).toNat)
    case atStart=>exact ⟨0,rfl,rfl,by omega,by simp⟩
    case round=>
      obtain ⟨pos,rfl,rfl,hps,hall⟩:=hrel
      by_cases hp:pos<s.size
      · have hts:=allN_take s pos hp
        rw [hall,Bool.true_and] at hts
        have hfa:=allN_false s pos hp
        have hbl:(s[pos]'hp).toNat<256:=(s[pos]'hp).toNat_lt
        have dp:decide ((pos:Int)<(s.size:Int))=true:=decide_eq_true (by omega)
        have HTS:=hid hts;have HFA:=hid hfa;have HA:=hid hall
        clear hts hfa hall e2 e3
        rcases okN_cases ((s[pos]'hp).toNat:Int) with ⟨h,hk⟩ | ⟨h,hk⟩ | ⟨h,hk⟩ | ⟨h,hk⟩ | ⟨h,hk⟩ | ⟨h,hk⟩ | ⟨h,hk⟩ | ⟨h,hk⟩
        · rw [hk] at HTS;have HT:=hid HTS.out
          clear HTS HFA hk
          obtain ⟨h1',h2'⟩:=h
          generalize hb:(s[pos]'hp).toNat=b at *
          have q0:decide (97≤(b:Int))=true:=decide_eq_true (by omega)
          have q1:decide ((b:Int)≤122)=true:=decide_eq_true (by omega)
          go_wp2
          go_roundw
          case rel=>exact ⟨pos+1,by first | rfl | trivial,by go_num,by omega,HT.out⟩
          case measure=>simp [intOf];omega
        · rw [hk] at HTS;have HT:=hid HTS.out
          clear HTS HFA hk
          obtain ⟨h1',h2'⟩:=h
          generalize hb:(s[pos]'hp).toNat=b at *
          have q0:decide (97≤(b:Int))=false:=decide_eq_false (by omega)
          have q1:decide (48≤(b:Int))=true:=decide_eq_true (by omega)
          have q2:decide ((b:Int)≤57)=true:=decide_eq_true (by omega)
          go_wp2
          go_roundw
          case rel=>exact ⟨pos+1,by first | rfl | trivial,by go_num,by omega,HT.out⟩
          case measure=>simp [intOf];omega
        · rw [hk] at HTS;have HT:=hid HTS.out
          clear HTS HFA hk
          generalize hb:(s[pos]'hp).toNat=b at *
          obtain rfl:b=46:=by omega
          clear h
          go_wp2
          go_roundw
          case rel=>exact ⟨pos+1,by first | rfl | trivial,by go_num,by omega,HT.out⟩
          case measure=>simp [intOf];omega
        · rw [hk] at HTS;have HT:=hid HTS.out
          clear HTS HFA hk
          generalize hb:(s[pos]'hp).toNat=b at *
          obtain rfl:b=95:=by omega
          clear h
          go_wp2
          go_roundw
          case rel=>exact ⟨pos+1,by first | rfl | trivial,by go_num,by omega,HT.out⟩
          case measure=>simp [intOf];omega
        · rw [hk] at HTS;have HT:=hid HTS.out
          clear HTS HFA hk
          generalize hb:(s[pos]'hp).toNat=b at *
          obtain rfl:b=45:=by omega
          clear h
          go_wp2
          go_roundw
          case rel=>exact ⟨pos+1,by first | rfl | trivial,by go_num,by omega,HT.out⟩
          case measure=>simp [intOf];omega
        · have HF:=hid (HFA.out hk)
          clear HTS HFA hk
          generalize hb:(s[pos]'hp).toNat=b at *
          have q0:decide (97≤(b:Int))=false:=decide_eq_false (by omega)
          have q1:decide (48≤(b:Int))=false:=decide_eq_false (by omega)
          have q2:((b:Int) == 46)=false:=by simp;omega
          have q3:((b:Int) == 95)=false:=by simp;omega
          have q4:((b:Int) == 45)=false:=by simp;omega
          go_wp2
          go_ret
          exact ⟨ret_bool HF.out.symm,rfl⟩
        · have HF:=hid (HFA.out hk)
          clear HTS HFA hk
          generalize hb:(s[pos]'hp).toNat=b at *
          have q0:decide (97≤(b:Int))=false:=decide_eq_false (by omega)
          have q1:decide (48≤(b:Int))=true:=decide_eq_true (by omega)
          have q2:decide ((b:Int)≤57)=false:=decide_eq_false (by omega)
          have q3:((b:Int) == 46)=false:=by simp;omega
          have q4:((b:Int) == 95)=false:=by simp;omega
          have q5:((b:Int) == 45)=false:=by simp;omega
          go_wp2
          go_ret
          exact ⟨ret_bool HF.out.symm,rfl⟩
        · have HF:=hid (HFA.out hk)
          clear HTS HFA hk
          generalize hb:(s[pos]'hp).toNat=b at *
          have q0:decide (97≤(b:Int))=true:=decide_eq_true (by omega)
          have q1:decide ((b:Int)≤122)=false:=decide_eq_false (by omega)
          have q2:decide (48≤(b:Int))=true:=decide_eq_true (by omega)
          have q3:decide ((b:Int)≤57)=false:=decide_eq_false (by omega)
          have q4:((b:Int) == 46)=false:=by simp;omega
          have q5:((b:Int) == 95)=false:=by simp;omega
          have q6:((b:Int) == 45)=false:=by simp;omega
          go_wp2
          go_ret
          exact ⟨ret_bool HF.out.symm,rfl⟩
      · have hf:allN s=true:=by
          rw [List.take_of_length_le (by simp;omega)] at hall
          exact hall
        have HF:=hid hf
        have dp:decide ((pos:Int)<(s.size:Int))=false:=decide_eq_false (by omega)
        clear hf hall
        go_wp2
        go_ret
        exact ⟨ret_bool HF.out.symm,rfl⟩
  · have hm:mayN s=false:=by unfold mayN;rw [decide_eq_false h4];simp
    rw [hm]
    have d4:decide (12<(s.size:Int))=true:=decide_eq_true (by omega)
    have d1:decide ((s.size:Int)<1)=false:=decide_eq_false (by omega)
    clear hm h0
    go_enter Tryz.func46,Tryz.ntmps46
    go_wp2
    go_ret
    exact ⟨rfl,rfl⟩
end Go.Proofs.YtpdjnefgkcmdnaaGreatDoor
