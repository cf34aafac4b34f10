/- Paths: names.Path, Parent. -/
import Derived.Test.YtpdjnefgkcmdnaaGreatDoorPthC
namespace Go.Proofs.YtpdjnefgkcmdnaaGreatDoor
open Go.RowKit Go.Shelf
set_option linter.unusedSimpArgs false
set_option linter.unusedVariables false
set_option maxRecDepth 100000

theorem split_all {X:List UInt8} {R:List ByteArray} (h:(R=(pieces X).map strB∧R.length≤6)∨(6<(pieces X).length∧∃ x∈R,(47:UInt8)∈x.data.toList)) :
    (R.all mayN=true∧namesO X=some R)∨(R.all mayN=false∧namesO X=none):=by
  rcases h with ⟨rfl,h6⟩ | ⟨h6,x,hx,hs⟩
  · rw [List.length_map] at h6
    cases ha:((pieces X).map strB).all mayN with
    | true=>exact .inl ⟨rfl,if_pos ⟨h6,ha⟩⟩
    | false=>exact .inr ⟨rfl,if_neg (fun q=>by rw [ha] at q;cases q.2)⟩
  · refine .inr ⟨?_,if_neg (fun q=>by omega)⟩
    rw [List.all_eq_false]
    exact ⟨x,hx,by rw [mayN_noslash hs];simp⟩

set_option maxHeartbeats 2000000 in
theorem path_any (X:List UInt8) (hX:X.length≤1000) (w:World):Calls Tryz.prog 77 #[.string (strB X)] w (PathP w (pathO X)):=by
  by_cases h0:X=[47]
  · subst h0
    have HO:Hid (pathO [47]=some []):=if_pos rfl
    have hl:=list_strB [47]
    go_enter Tryz.func77,Tryz.ntmps77
    go_wp2_with fail
    go_ret2
    exact PathP_root HO.out rfl (Below.refl _ _)
  · have e1:((strB X).toList == [(47:UInt8)])=false:=by rw [list_strB];simpa using h0
    have hp:pathO X=restO X:=if_neg h0
    cases X with
    | nil=>
      have HO:=hid (show pathO []=none from hp)
      have HC:=hid (fun w1=>cutPre_no [] (fun b r h=>by cases h) w1)
      clear hp h0
      go_enter Tryz.func77,Tryz.ntmps77
      go_wp2_with (go_at_call 86;refine (HC.out _).mono ?_;rintro e w1 ⟨rfl,rfl⟩)
      go_ret2
      exact PathP_none HO.out rfl (Below.refl _ _)
    | cons b r=>
      by_cases hb:b=47
      · subst hb
        have HO:=hid (show pathO (47::r)=namesO r from hp.trans (by simp [restO]))
        have HC:=hid (fun w1=>cutPre_yes r w1)
        have hr:r.length≤1000:=by simp at hX;omega
        have HS:=hid (fun w1=>splitN_any r hr w1)
        clear hp h0 hX hr
        go_enter Tryz.func77,Tryz.ntmps77
        go_wp2_with (first
          | (go_at_call 86;refine (HC.out _).mono ?_;rintro e w1 ⟨rfl,rfl⟩)
          | (go_at_call 87;fail))
        refine (HS.out w).mono ?_
        rintro e w1 ⟨a,c,R,rfl,o,bb,h⟩
        have h2:=split_all h
        have O:=hid o;have B:=hid bb
        have HA:=fun w2 (q:RowS w2 a c R)=>areNames_any a c R w2 q
        clear o bb h
        rcases h2 with ⟨ha,hn⟩ | ⟨ha,hn⟩
        · rw [ha] at HA
          have HA:=hid HA;have HN:=hid hn
          clear ha hn
          go_wp2_with (go_at_call 88;refine (HA.out _ O.out.row).mono ?_;rintro e w2 ⟨rfl,b2⟩;have O2:=hid (O.out.mono b2);have B2:=hid (kept_trans B.out b2);clear b2)
          go_ret2
          exact PathP_some (by rw [HO.out,HN.out]) rfl O2.out B2.out
        · rw [ha] at HA
          have HA:=hid HA;have HN:=hid hn
          clear ha hn
          go_wp2_with (go_at_call 88;refine (HA.out _ O.out.row).mono ?_;rintro e w2 ⟨rfl,b2⟩;have B2:=hid (kept_trans B.out b2);clear b2)
          go_ret2
          exact PathP_none (by rw [HO.out,HN.out]) rfl B2.out
      · have HO:=hid (show pathO (b::r)=none from hp.trans (by simp [restO,hb]))
        have HC:=hid (fun w1=>cutPre_no (b::r) (fun b' r' h=>by cases h;exact hb) w1)
        clear hp h0 hb
        go_enter Tryz.func77,Tryz.ntmps77
        go_wp2_with (go_at_call 86;refine (HC.out _).mono ?_;rintro e w1 ⟨rfl,rfl⟩)
        go_ret2
        exact PathP_none HO.out rfl (Below.refl _ _)

/-- what Parent tells -/
def ParP (w:World) (o:Option (List ByteArray)) (e:Ending) (w':World):Prop:=
  (∃ (L:List ByteArray) (x:ByteArray) (a:Option Addr) (c:Nat),o=some (L++[x])∧c=L.length∧e=.returned (.tuple #[.slice a L.length c,.string x,.int .i64 0])∧RowS w' a c L∧Below w.heap.size w w') ∨
  ((o=none∨o=some [])∧e=.returned (.tuple #[.slice none 0 0,.string ⟨#[]⟩,.int .i64 15])∧Below w.heap.size w w')
theorem snoc_cases {α:Type} (L:List α):L=[]∨∃ A x,L=A++[x]:=by
  rcases List.eq_nil_or_concat L with h | ⟨A,x,h⟩
  · exact .inl h
  · exact .inr ⟨A,x,by rw [h];simp⟩

set_option maxHeartbeats 2000000 in
theorem parent_any (X:List UInt8) (hX:X.length≤1000) (w:World):Calls Tryz.prog 84 #[.string (strB X)] w (ParP w (pathO X)):=by
  have HP:=hid (path_any X hX w)
  cases ho:pathO X with
  | none=>
    rw [ho] at HP
    go_enter Tryz.func84,Tryz.ntmps84
    go_wp2_with (go_at_call 77;fail)
    refine (HP.out).mono ?_
    rintro e w1 ⟨a,c,rfl,o,b⟩
    have B:=hid b
    clear o b
    simp only [erO,Option.getD_none,List.length_nil]
    go_wp2_with fail
    go_ret3
    exact .inr ⟨.inl rfl,rfl,B.out⟩
  | some L=>
    rw [ho] at HP
    rcases snoc_cases L with rfl | ⟨A,x,rfl⟩
    · go_enter Tryz.func84,Tryz.ntmps84
      go_wp2_with (go_at_call 77;fail)
      refine (HP.out).mono ?_
      rintro e w1 ⟨a,c,rfl,o,b⟩
      have B:=hid b
      clear o b
      simp only [erO,Option.getD_some,List.length_nil]
      go_wp2_with fail
      go_ret3
      exact .inr ⟨.inr rfl,rfl,B.out⟩
    · go_enter Tryz.func84,Tryz.ntmps84
      go_wp2_with (go_at_call 77;fail)
      refine (HP.out).mono ?_
      rintro e w1 ⟨a,c,rfl,o,b⟩
      have O:=hid o;have B:=hid b
      clear o b
      simp only [erO,Option.getD_some]
      simp only [Option.getD_some] at O
      have hl:(A++[x]).length=A.length+1:=by simp
      rw [hl]
      have hrow:RowS w1 a c (A++[x]):=O.out.row
      obtain ⟨g,off,rfl,hg,hc⟩:=rowS_cells hrow (by omega)
      have hlc:A.length+1≤c:=by have:=hrow.2.1;rw [hl] at this;exact this
      have hc9:c≤9223372036854775807:=by have:=hrow.2.2.1;unfold maxLen at this;exact this
      have cx:=hc A.length (by omega)
      have hx:(A++[x])[A.length]'(by omega)=x:=by simp
      rw [hx] at cx
      have HROW:=hid hrow
      clear hc hx hrow hl
      have i1:(A.length:Int)<(A.length:Int)+1:=by omega
      have i2:(A.length:Int)≤c:=by omega
      have i3:(0:Int)≤A.length:=by omega
      go_wp2_with fail
      go_quiet (fail)
      go_wp2_with fail
      go_ret3
      refine .inl ⟨A,x,some ⟨g,off,none⟩,A.length,rfl,rfl,rfl,?_,bel_drewN B.out _⟩
      obtain ⟨h1,h2,h3,h4,h5⟩:=HROW.out
      refine ⟨by simp,Nat.le_refl _,by unfold maxLen;omega,(fun h=>by cases h),fun hn=>?_⟩
      obtain ⟨b',o',e',hb',hc'⟩:=h5 (by simp)
      refine ⟨b',o',e',hb',fun j u hu=>hc' j u ?_⟩
      rw [List.map_append,List.getElem?_append_left (by have:=(List.getElem?_eq_some_iff.1 hu).1;exact this)]
      exact hu
end Go.Proofs.YtpdjnefgkcmdnaaGreatDoor
