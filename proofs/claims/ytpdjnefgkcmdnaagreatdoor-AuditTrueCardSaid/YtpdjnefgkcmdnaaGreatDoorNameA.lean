/- Names: which text is one (names.May, the document's May). -/
import Derived.Test.YtpdjnefgkcmdnaaGreatDoorLib
import Derived.Laws.RangeAny
import Derived.Shelf.Abstract
import Derived.LoopTactic
namespace Go.Proofs.YtpdjnefgkcmdnaaGreatDoor
open Go.RowKit Go.Shelf
set_option linter.unusedSimpArgs false
set_option linter.unusedVariables false
set_option maxRecDepth 100000

theorem eqN_str (a b:ByteArray):(a.toList == b.toList)=decide (a=b):=by
  by_cases h:a=b
  · subst h;simp
  · rw [decide_eq_false h]
    exact beq_eq_false_iff_ne.2 (fun q=>h (by rw [ByteArray.toList_eq,ByteArray.toList_eq] at q;exact ByteArray.ext (Array.toList_inj.1 q)))
theorem emptyN {s:ByteArray} (h:¬ s=⟨#[]⟩):s.toList.isEmpty=false:=by
  rw [← decide_eq_emptyBytes];exact decide_eq_false h
theorem emptyN_t:(⟨#[]⟩:ByteArray).toList.isEmpty=true:=by
  rw [← decide_eq_emptyBytes];exact decide_eq_true rfl
theorem list1 (a:UInt8):(⟨#[a]⟩:ByteArray).toList=[a]:=by rw [ByteArray.toList_eq]
theorem list2 (a b:UInt8):(⟨#[a,b]⟩:ByteArray).toList=[a,b]:=by rw [ByteArray.toList_eq]

/-- a sign of a name -/
def okN (c:Int):Bool:=decide (97≤c∧c≤122)||decide (48≤c∧c≤57)||decide (c=46)||decide (c=95)||decide (c=45)
theorem okN_cases (c:Int):((97≤c∧c≤122)∧okN c=true)∨((48≤c∧c≤57)∧okN c=true)∨(c=46∧okN c=true)∨(c=95∧okN c=true)∨(c=45∧okN c=true) ∨
    ((c<48∧c≠45∧c≠46)∧okN c=false)∨((57<c∧c<97∧c≠95)∧okN c=false)∨(122<c∧okN c=false):=by
  have key:okN c=true↔((97≤c∧c≤122)∨(48≤c∧c≤57)∨c=46∨c=95∨c=45):=by
    unfold okN;simp only [Bool.or_eq_true,decide_eq_true_eq];omega
  have kf:okN c=false↔¬ ((97≤c∧c≤122)∨(48≤c∧c≤57)∨c=46∨c=95∨c=45):=by
    rw [← key];simp
  rw [key,kf];omega
/-- is a text a name? -/
def allN (s:ByteArray):Bool:=s.data.toList.all (fun b=>okN (b.toNat:Int))
def mayN (s:ByteArray):Bool:=decide (1≤s.size)&&decide (s.size≤12)&&!decide (s=⟨#[46]⟩)&&!decide (s=⟨#[46,46]⟩)&&allN s

theorem allN_take (s:ByteArray) (k:Nat) (h:k<s.size):(s.data.toList.take (k+1)).all (fun b=>okN (b.toNat:Int))=((s.data.toList.take k).all (fun b=>okN (b.toNat:Int))&&okN ((s[k]'h).toNat:Int)):=by
  have e:s.data.toList.take (k+1)=s.data.toList.take k++[s[k]]:=by
    rw [List.take_succ_eq_append_getElem (by simpa using h)];rfl
  rw [e,List.all_append];simp
theorem allN_false (s:ByteArray) (k:Nat) (h:k<s.size) (hk:okN ((s[k]'h).toNat:Int)=false):allN s=false:=by
  unfold allN
  rw [List.all_eq_false]
  refine ⟨s[k],?_,by rw [hk];simp⟩
  exact List.mem_of_getElem? (i:=k) (by simp [h];rfl)

set_option maxHeartbeats 1000000 in
theorem inName_any (r:Int) (w:World):Calls Tryz.prog 111 #[.int .i32 r] w fun e w'=>e=.returned (.bool (okN r))∧w=w':=by
  rcases okN_cases r with ⟨h,hk⟩ | ⟨h,hk⟩ | ⟨h,hk⟩ | ⟨h,hk⟩ | ⟨h,hk⟩ | ⟨h,hk⟩ | ⟨h,hk⟩ | ⟨h,hk⟩
  all_goals
    rw [hk]
    clear hk
  · obtain ⟨h1,h2⟩:=h
    have d1:decide (97≤r)=true:=decide_eq_true h1
    have d2:decide (r≤122)=true:=decide_eq_true h2
    go_enter Tryz.func111,Tryz.ntmps111
    go_wp2
    go_ret
    exact ⟨rfl,rfl⟩
  · obtain ⟨h1,h2⟩:=h
    have d1:decide (97≤r)=false:=decide_eq_false (by omega)
    have d3:decide (48≤r)=true:=decide_eq_true h1
    have d4:decide (r≤57)=true:=decide_eq_true h2
    go_enter Tryz.func111,Tryz.ntmps111
    go_wp2
    go_ret
    exact ⟨rfl,rfl⟩
  · subst h
    go_enter Tryz.func111,Tryz.ntmps111
    go_wp2
    go_ret
    exact ⟨rfl,rfl⟩
  · subst h
    go_enter Tryz.func111,Tryz.ntmps111
    go_wp2
    go_ret
    exact ⟨rfl,rfl⟩
  · subst h
    go_enter Tryz.func111,Tryz.ntmps111
    go_wp2
    go_ret
    exact ⟨rfl,rfl⟩
  · have d1:decide (97≤r)=false:=decide_eq_false (by omega)
    have d3:decide (48≤r)=false:=decide_eq_false (by omega)
    have e1:(r == 46)=false:=by simp;omega
    have e2:(r == 95)=false:=by simp;omega
    have e3:(r == 45)=false:=by simp;omega
    go_enter Tryz.func111,Tryz.ntmps111
    go_wp2
    go_ret
    exact ⟨rfl,rfl⟩
  · have d1:decide (97≤r)=false:=decide_eq_false (by omega)
    have d3:decide (48≤r)=true:=decide_eq_true (by omega)
    have d4:decide (r≤57)=false:=decide_eq_false (by omega)
    have e1:(r == 46)=false:=by simp;omega
    have e2:(r == 95)=false:=by simp;omega
    have e3:(r == 45)=false:=by simp;omega
    go_enter Tryz.func111,Tryz.ntmps111
    go_wp2
    go_ret
    exact ⟨rfl,rfl⟩
  · have d1:decide (97≤r)=true:=decide_eq_true (by omega)
    have d2:decide (r≤122)=false:=decide_eq_false (by omega)
    have d3:decide (48≤r)=true:=decide_eq_true (by omega)
    have d4:decide (r≤57)=false:=decide_eq_false (by omega)
    have e1:(r == 46)=false:=by simp;omega
    have e2:(r == 95)=false:=by simp;omega
    have e3:(r == 45)=false:=by simp;omega
    go_enter Tryz.func111,Tryz.ntmps111
    go_wp2
    go_ret
    exact ⟨rfl,rfl⟩

theorem lenN_of {s:ByteArray} (h:¬ s=⟨#[]⟩):1≤s.size:=by
  rcases Nat.eq_zero_or_pos s.size with h0 | h0
  · exact absurd (ByteArray.ext (Array.eq_empty_of_size_eq_zero h0)) h
  · exact h0

set_option maxHeartbeats 2000000 in
theorem mayN_any (s:ByteArray) (w:World):Calls Tryz.prog 99 #[.string s] w fun e w'=>e=.returned (.bool (mayN s))∧Below w.heap.size w w':=by
  by_cases h0:s=⟨#[]⟩
  · subst h0
    have het:=emptyN_t
    rw [show mayN ⟨#[]⟩=false from by decide +kernel]
    go_enter Tryz.func99,Tryz.ntmps99
    go_wp2
    go_ret
    exact ⟨rfl,Below.refl _ _⟩
  have h1:=lenN_of h0
  have he:=emptyN h0
  by_cases h2:s=⟨#[46]⟩
  · subst h2
    rw [show mayN ⟨#[46]⟩=false from by decide +kernel]
    clear h0 h1 
    go_enter Tryz.func99,Tryz.ntmps99
    go_wp2
    go_ret
    exact ⟨rfl,Below.refl _ _⟩
  have e2:=eqN_str s ⟨#[46]⟩
  rw [decide_eq_false h2,list1] at e2
  by_cases h3:s=⟨#[46,46]⟩
  · subst h3
    rw [show mayN ⟨#[46,46]⟩=false from by decide +kernel]
    clear h0 h1 h2
    go_enter Tryz.func99,Tryz.ntmps99
    go_wp2
    go_ret
    exact ⟨rfl,Below.refl _ _⟩
  have e3:=eqN_str s ⟨#[46,46]⟩
  rw [decide_eq_false h3,list2] at e3
  by_cases h4:s.size≤12
  · have hm:mayN s=allN s:=by unfold mayN;rw [decide_eq_true h1,decide_eq_true h4,decide_eq_false h2,decide_eq_false h3];simp
    rw [hm]
    have d4:decide (12<(s.size:Int))=false:=decide_eq_false (by omega)
    clear hm h0 h2 h3
    go_enter Tryz.func99,Tryz.ntmps99
    go_wp2
    go_loopw [2] (fun v wr=>∃ pos:Nat,wr=w.iter s pos∧v=.bool false∧(pos≤s.size∧(s.data.toList.take pos).all (fun b=>okN (b.toNat:Int))=true)) (fun _ wr=>s.size-wr.iterPos w.heap.size)
    case atStart=>exact ⟨0,rfl,rfl,by omega,by simp⟩
    case round=>
      obtain ⟨pos,rfl,rfl,hps,hall⟩:=hrel
      by_cases hp:pos<s.size
      · have hts:=allN_take s pos hp
        rw [hall,Bool.true_and] at hts
        have hfa:=allN_false s pos hp
        have hlo:=fun ha=>decode_ascii s pos hp ha
        have hhi:=fun ha=>decode_high s pos hp ha
        have hnx:∀ ty,(Instr.next (.pointer (some ⟨w.heap.size,0,none⟩)) true ty).run Tryz.prog (w.iter s pos)=_:=fun ty=>run_next_any w s pos ty hp
        have HIN:=hid (fun w1=>inName_any ((Utf8.decode s pos).1:Int) w1)
        have HTS:=hid hts;have HFA:=hid hfa
        clear hts hfa
        rcases Nat.lt_or_ge (s[pos]'hp).toNat 128 with hb | hb
        · have hd:=hlo hb
          rw [hd] at hnx HIN
          clear hlo hhi hd
          generalize (s[pos]'hp).toNat=b at *
          cases hk:okN (b:Int) with
          | true=>
            rw [hk] at HIN HTS
            clear hk
            have HA:=hid hall
            clear hall
            go_wp2_with (go_at_call 111;refine (HIN.out _).mono ?_;rintro e w1 ⟨rfl,rfl⟩)
            go_roundw
            case rel=>exact ⟨pos+1,rfl,rfl,by omega,HTS.out⟩
            case measure=>simp;omega
          | false=>
            rw [hk] at HIN
            have HF:=hid (HFA.out hk)
            clear hk hall
            go_wp2_with (go_at_call 111;refine (HIN.out _).mono ?_;rintro e w1 ⟨rfl,rfl⟩)
            go_ret
            exact ⟨ret_bool HF.out.symm,by unfold World.iter;exact (Below.refl _ _).alloc (Nat.le_refl _) _⟩
        · obtain ⟨hd1,hd2⟩:=hhi hb
          have hbl:(s[pos]'hp).toNat<256:=(s[pos]'hp).toNat_lt
          have hk:okN (((s[pos]'hp).toNat:Nat):Int)=false:=by
            unfold okN;simp only [Bool.or_eq_false_iff,decide_eq_false_iff_not];omega
          have hk2:okN (((Utf8.decode s pos).1:Nat):Int)=false:=by
            unfold okN;simp only [Bool.or_eq_false_iff,decide_eq_false_iff_not];omega
          rw [hk2] at HIN
          have HF:=hid (HFA.out hk)
          clear hk hk2 hall hlo hhi hd1 hd2 hb hbl
          generalize (Utf8.decode s pos).1=r at *
          go_wp2_with (go_at_call 111;refine (HIN.out _).mono ?_;rintro e w1 ⟨rfl,rfl⟩)
          go_ret
          exact ⟨ret_bool HF.out.symm,by unfold World.iter;exact (Below.refl _ _).alloc (Nat.le_refl _) _⟩
      · have hnx:∀ ty,(Instr.next (.pointer (some ⟨w.heap.size,0,none⟩)) true ty).run Tryz.prog (w.iter s pos)=_:=fun ty=>run_next_end w s pos ty hp
        have hf:allN s=true:=by
          rw [List.take_of_length_le (by simp;omega)] at hall
          exact hall
        have HF:=hid hf
        clear hf hall
        go_wp2
        go_ret
        exact ⟨ret_bool HF.out.symm,by unfold World.iter;exact (Below.refl _ _).alloc (Nat.le_refl _) _⟩
  · have hm:mayN s=false:=by unfold mayN;rw [decide_eq_false h4];simp
    rw [hm]
    have d4:decide (12<(s.size:Int))=true:=decide_eq_true (by omega)
    clear hm h0 h2 h3
    go_enter Tryz.func99,Tryz.ntmps99
    go_wp2
    go_ret
    exact ⟨rfl,Below.refl _ _⟩
end Go.Proofs.YtpdjnefgkcmdnaaGreatDoor
