/- Paths: names.Path. -/
import Derived.Test.YtpdjnefgkcmdnaaGreatDoorPthB
namespace Go.Proofs.YtpdjnefgkcmdnaaGreatDoor
open Go.RowKit Go.Shelf
set_option linter.unusedSimpArgs false
set_option linter.unusedVariables false
set_option maxRecDepth 100000

/-- the names of a text behind its first slash -/
def namesO (rest:List UInt8):Option (List ByteArray):=if (pieces rest).length≤6∧((pieces rest).map strB).all mayN=true then some ((pieces rest).map strB) else none
def restO:List UInt8→Option (List ByteArray)
  | b::r=>if b=47 then namesO r else none
  | []=>none
/-- the names of a path -/
def pathO (X:List UInt8):Option (List ByteArray):=if X=[47] then some [] else restO X
def erO (o:Option (List ByteArray)):Int:=match o with | some _=>0 | none=>15
def PathP (w:World) (o:Option (List ByteArray)) (e:Ending) (w':World):Prop:=
  ∃ a c,e=.returned (.tuple #[.slice a (o.getD []).length c,.int .i64 (erO o)])∧OwnS w' w.heap.size a c (o.getD [])∧Below w.heap.size w w'
theorem PathP_none {w w':World} {o:Option (List ByteArray)} {e:Ending} (ho:o=none) (he:e=.returned (.tuple #[.slice none 0 0,.int .i64 15])) (hb:Below w.heap.size w w'):PathP w o e w':=by
  subst ho;exact ⟨none,0,he,Own.nil _ _ _ _,hb⟩
theorem PathP_root {w w':World} {o:Option (List ByteArray)} {e:Ending} (ho:o=some []) (he:e=.returned (.tuple #[.slice none 0 0,.int .i64 0])) (hb:Below w.heap.size w w'):PathP w o e w':=by
  subst ho;exact ⟨none,0,he,Own.nil _ _ _ _,hb⟩
theorem PathP_some {w w':World} {o:Option (List ByteArray)} {e:Ending} {L:List ByteArray} {a:Option Addr} {c:Nat} (ho:o=some L) (he:e=.returned (.tuple #[.slice a L.length c,.int .i64 0])) (h:OwnS w' w.heap.size a c L) (hb:Below w.heap.size w w'):PathP w o e w':=by
  subst ho;exact ⟨a,c,he,h,hb⟩

theorem mayN_noslash {x:ByteArray} (h:(47:UInt8)∈x.data.toList):mayN x=false:=by
  have:allN x=false:=by
    unfold allN
    rw [List.all_eq_false]
    exact ⟨47,h,by decide⟩
  unfold mayN;rw [this];simp
theorem strB_eq (X:List UInt8) (Y:List UInt8):(strB X=strB Y)↔X=Y:=by
  constructor
  · intro h
    have:=congrArg (fun s:ByteArray=>s.data.toList) h
    simpa [strB] using this
  · rintro rfl;rfl

set_option maxHeartbeats 1000000 in
theorem splitN_any (X:List UInt8) (hX:X.length≤1000) (w:World):Calls Tryz.prog 87 #[.string (strB X),.string ⟨#[47]⟩,.int .i64 6] w (SplitP w X):=by
  have HG:=genSplit_any X hX w
  unfold SplitP at HG ⊢
  have HG:=hid HG
  go_enter Tryz.func87,Tryz.ntmps87
  go_wp2_with (go_at_call 98;fail)
  refine (HG.out).mono ?_
  rintro e w1 ⟨a,c,R,rfl,o,b,h⟩
  have O:=hid o;have B:=hid b;have H:=hid h
  clear o b h
  go_wp2_with fail
  go_ret
  exact ⟨a,c,R,rfl,O.out,B.out,H.out⟩

theorem list_strB (X:List UInt8):(strB X).toList=X:=by rw [ByteArray.toList_eq];rfl

set_option maxHeartbeats 1000000 in
theorem cutPre_yes (r:List UInt8) (w:World):Calls Tryz.prog 86 #[.string (strB (47::r)),.string ⟨#[47]⟩] w fun e w'=>e=.returned (.tuple #[.string (strB r),.bool true])∧w=w':=by
  have x1:(strB (47::r)).extract 0 1=⟨#[47]⟩:=by rw [ext_head];rfl
  have x2:(strB (47::r)).extract 1 (r.length+1)=strB r:=ext_tail (47::r) 1
  have hs:(strB (47::r)).size=r.length+1:=strB_size _
  generalize strB (47::r)=s at *
  have d1:decide ((1:Int)≤(r.length:Int)+1)=true:=decide_eq_true (by omega)
  have i1:(1:Int)≤((r.length+1:Nat):Int):=by omega
  have HX2:=hid x2;have HS:=hid hs
  have x3:s.extract 1 s.size=strB r:=by rw [hs];exact x2
  have i2:(1:Int)≤s.size:=by omega
  have d2:decide ((1:Int)≤(s.size:Int))=true:=decide_eq_true i2
  clear x2 hs d1 i1
  go_enter Tryz.func86,Tryz.ntmps86
  go_wp2
  go_ret2
  exact ⟨rfl,rfl⟩
set_option maxHeartbeats 1000000 in
theorem cutPre_no (X:List UInt8) (hX:∀ b r,X=b::r→b≠47) (w:World):Calls Tryz.prog 86 #[.string (strB X),.string ⟨#[47]⟩] w fun e w'=>e=.returned (.tuple #[.string (strB X),.bool false])∧w=w':=by
  cases X with
  | nil=>
    have hs:(strB []).size=0:=rfl
    generalize strB []=s at *
    go_enter Tryz.func86,Tryz.ntmps86
    go_wp2
    go_ret2
    exact ⟨rfl,rfl⟩
  | cons b r=>
    have hb:¬ b=47:=hX b r rfl
    have x1:(strB (b::r)).extract 0 1=⟨#[b]⟩:=by rw [ext_head];rfl
    have hs:(strB (b::r)).size=r.length+1:=strB_size _
    generalize strB (b::r)=s at *
    have i2:(1:Int)≤s.size:=by omega
    have d2:decide ((1:Int)≤(s.size:Int))=true:=decide_eq_true i2
    have e1:((⟨#[b]⟩:ByteArray).toList == [47])=false:=by rw [list1];simpa using hb
    have e2:([b] == [(47:UInt8)])=false:=by simpa using hb
    have e3:=list1 b
    clear hs hX
    go_enter Tryz.func86,Tryz.ntmps86
    go_wp2
    go_ret2
    exact ⟨rfl,rfl⟩
end Go.Proofs.YtpdjnefgkcmdnaaGreatDoor
