/- Paths: the pieces of a text; where a slash stands (strings.Index). -/
import Derived.Test.YtpdjnefgkcmdnaaGreatDoorNameB
import Derived.Test.YtpdjnefgkcmdnaaGreatDoorLibO
import Derived.Lib.Bytealg
import Derived.Laws.Externs
import Derived.Lib.IndexLaws
namespace Go.Proofs.YtpdjnefgkcmdnaaGreatDoor
open Go.RowKit Go.Shelf
set_option linter.unusedSimpArgs false
set_option linter.unusedVariables false
set_option maxRecDepth 100000

/-- the first slash -/
def slash (l:List UInt8):Option Nat:=l.findIdx? (fun b=>b == 47)
/-- the pieces between slashes -/
def pieces:List UInt8→List (List UInt8)
  | []=>[[]]
  | b::l=>if b == 47 then []::pieces l else match pieces l with
    | p::r=>(b::p)::r
    | []=>[[b]]
theorem pieces_cons (b:UInt8) (l:List UInt8):pieces (b::l)=if b == 47 then []::pieces l else match pieces l with
    | p::r=>(b::p)::r
    | []=>[[b]]:=by rw [pieces]
theorem pieces_ne (l:List UInt8):pieces l≠[]:=by
  cases l with
  | nil=>simp [pieces]
  | cons b l=>
    unfold pieces
    split
    · simp
    · split<;>simp
theorem pieces_none:∀ {l:List UInt8},(∀ b∈l,b≠47)→pieces l=[l]
  | [],_=>rfl
  | b::l,h=>by
    have hb:(b == 47)=false:=by simpa using h b (by simp)
    have ih:=pieces_none (l:=l) (fun x hx=>h x (by simp [hx]))
    unfold pieces
    rw [hb,ih];rfl
theorem pieces_at:∀ (p r:List UInt8),(∀ b∈p,b≠47)→pieces (p++47::r)=p::pieces r
  | [],r,_=>by
    show pieces (47::r)=_
    rw [pieces_cons];rfl
  | b::p,r,h=>by
    have hb:(b == 47)=false:=by simpa using h b (by simp)
    have ih:=pieces_at p r (fun x hx=>h x (by simp [hx]))
    show pieces (b::(p++47::r))=_
    rw [pieces_cons,hb,ih];rfl
theorem pieces_le:∀ l:List UInt8,(pieces l).length≤l.length+1
  | []=>by simp [pieces]
  | b::l=>by
    have ih:=pieces_le l
    unfold pieces
    split
    · simp;omega
    · split
      · rename_i h;rw [h] at ih;simp at ih ⊢;omega
      · simp
/-- a text out of bytes -/
def strB (l:List UInt8):ByteArray:=⟨l.toArray⟩
theorem strB_data (l:List UInt8):(strB l).data.toList=l:=rfl
theorem strB_size (l:List UInt8):(strB l).size=l.length:=by show l.toArray.size=_;simp
theorem ext_str (s:ByteArray) (a b:Nat):s.extract a b=strB ((s.data.toList.drop a).take (b-a)):=by
  apply ByteArray.ext
  rw [ByteArray.data_extract]
  apply Array.ext'
  rw [Array.toList_extract]
  show (s.data.toList.extract a b)=_
  rw [List.extract_eq_take_drop];rfl

/-- the slash: at a place, or nowhere -/
theorem slash_cases (l:List UInt8):(Lib.indexByte l 47=-1∧∀ b∈l,b≠47)∨(∃ k:Nat,Lib.indexByte l 47=k∧k<l.length∧(∀ b∈l.take k,b≠47)∧l=l.take k++47::l.drop (k+1)):=by
  have hge:=Lib.indexByte_ge l 47
  by_cases h:Lib.indexByte l 47=-1
  · refine .inl ⟨h,fun b hb e=>?_⟩
    obtain ⟨i,hi,rfl⟩:=List.getElem_of_mem hb
    exact Lib.indexByte_none h i (by rw [List.getElem?_eq_getElem hi,e])
  · obtain ⟨k,hk⟩:∃ k:Nat,Lib.indexByte l 47=k:=⟨(Lib.indexByte l 47).toNat,by omega⟩
    obtain ⟨h1,h2⟩:=Lib.indexByte_some hk
    obtain ⟨h3,h4⟩:=List.getElem?_eq_some_iff.1 h1
    refine .inr ⟨k,hk,h3,fun b hb e=>?_,?_⟩
    · obtain ⟨i,hi,rfl⟩:=List.getElem_of_mem hb
      rw [List.length_take] at hi
      rw [List.getElem_take] at e
      exact h2 i (by omega) (by rw [List.getElem?_eq_getElem (by omega),e])
    · rw [← h4,List.getElem_cons_drop,List.take_append_drop]

set_option maxHeartbeats 1000000 in
theorem indexB_any (s:ByteArray) (w:World):Calls Tryz.prog 133 #[.string s,.int .u8 47] w fun e w'=>e=.returned (.int .i64 (Lib.indexByte s.data.toList 47))∧w=w':=by
  go_enter Tryz.func133,Tryz.ntmps133
  go_wp2
  rw [run_callFunc_extern Tryz.func143 (by kernel_rfl) (by kernel_rfl) (by kernel_rfl) (e:=Extern.BytealgIndexByte.indexByte) (by kernel_rfl),Lib.run_indexByteString]
  simp only [Result.andThen]
  rw [Oper.upon_value]
  go_wp2
  go_ret
  exact ⟨rfl,rfl⟩

set_option maxHeartbeats 1000000 in
set_option maxRecDepth 100000 in
theorem indexS_any (s:ByteArray) (w:World):Calls Tryz.prog 120 #[.string s,.string ⟨#[47]⟩] w fun e w'=>e=.returned (.int .i64 (Lib.indexByte s.data.toList 47))∧w=w':=by
  by_cases hs:s=⟨#[47]⟩
  · subst hs
    go_enter Tryz.func120,Tryz.ntmps120
    go_wp2_with fail
    go_ret
    exact ⟨ret_int (by decide +kernel),rfl⟩
  have e1:=eqN_str s ⟨#[47]⟩
  rw [decide_eq_false hs,list1] at e1
  have e2:=eqN_str ⟨#[47]⟩ s
  rw [decide_eq_false (fun h=>hs h.symm),list1] at e2
  have HI:=hid (fun w1=>indexB_any s w1)
  clear hs
  go_enter Tryz.func120,Tryz.ntmps120
  go_wp2_with (go_at_call 133;refine (HI.out _).mono ?_;rintro e w1 ⟨rfl,rfl⟩)
  go_ret
  exact ⟨rfl,rfl⟩

theorem index_any (s:ByteArray) (w:World):Calls Tryz.prog 110 #[.string s,.string ⟨#[47]⟩] w fun e w'=>e=.returned (.int .i64 (Lib.indexByte s.data.toList 47))∧w=w':=by
  have HI:=hid (fun w1=>indexS_any s w1)
  go_enter Tryz.func110,Tryz.ntmps110
  go_wp2_with (go_at_call 120;refine (HI.out _).mono ?_;rintro e w1 ⟨rfl,rfl⟩)
  go_ret
  exact ⟨rfl,rfl⟩

/-- strings in cells -/
def strV (x:ByteArray):Value:=.string x
abbrev RowS (w:World) (a:Option Addr) (c:Nat) (L:List ByteArray):Prop:=Row w 1 a L.length c (L.map strV)
abbrev OwnS (w:World) (B:Nat) (a:Option Addr) (c:Nat) (L:List ByteArray):Prop:=Own w B 9 1 a L.length c (L.map strV)
theorem ES:ElemT Tryz.prog 24 9 1 16:=elemT Tryz.underlying24 (z:=.string ⟨#[]⟩) (by kernel_rfl) rfl (by omega)
theorem rowS_cells {w:World} {a:Option Addr} {c:Nat} {L:List ByteArray} (h:RowS w a c L) (hn:0<L.length) :
    ∃ b off,a=some ⟨b,off,none⟩∧b<w.heap.size∧∀ i (hi:i<L.length),w.cell? ⟨b,off+i,none⟩=some (.string L[i]):=by
  obtain ⟨b,off,e,hlt,hc⟩:=h.at hn
  exact ⟨b,off,e,hlt,fun i hi=>hc i _ (by simp [hi,strV])⟩
theorem rowS_len {w:World} {a:Option Addr} {c:Nat} {L:List ByteArray} (h:RowS w a c L):L.length≤9223372036854775807:=by
  have h1:=h.2.1;have h2:=h.2.2.1;unfold maxLen at h2;omega

set_option maxHeartbeats 1000000 in
theorem areNames_any (a:Option Addr) (c:Nat) (L:List ByteArray) (w:World) (h:RowS w a c L) :
    Calls Tryz.prog 88 #[.slice a L.length c] w fun e w'=>e=.returned (.bool (L.all mayN))∧Below w.heap.size w w':=by
  have hl:=rowS_len h
  have HR:=hid h
  clear h
  go_enter Tryz.func88,Tryz.ntmps88
  go_wp2
  go_loopw [7] (fun i wr=>∃ j:Nat,j≤L.length∧i=.int .i64 j∧(L.take j).all mayN=true∧Below w.heap.size w wr) (fun i _=>L.length-(intOf i).toNat)
  case atStart=>exact ⟨0,Nat.zero_le _,rfl,by simp,Below.refl _ _⟩
  case round=>
    obtain ⟨j,hj,rfl,hall,hb⟩:=hrel
    by_cases hlt:j<L.length
    · obtain ⟨b,off,rfl,hbl,hc⟩:=rowS_cells (HR.out.mono hb) (by omega)
      have cj:=hc j hlt
      have ij:(j:Int)<L.length:=by omega
      have dj:decide ((j:Int)<(L.length:Int))=true:=decide_eq_true ij
      have hsn:(L.take (j+1)).all mayN=mayN L[j]:=by rw [List.take_succ_eq_append_getElem hlt,List.all_append,hall];simp
      have hbad:mayN L[j]=false→L.all mayN=false:=fun h=>by
        rw [List.all_eq_false];exact ⟨L[j],List.getElem_mem _,by rw [h];simp⟩
      have HM:=fun w1=>mayN_any L[j] w1
      have HSN:=hid hsn;have HBAD:=hid hbad;have HB:=hid hb
      clear hc hsn hbad hall hb
      generalize L[j]=x at *
      cases hm:mayN x with
      | true=>
        rw [hm] at HM HSN
        have HM:=hid HM
        clear hm
        go_wp2_with (go_at_call 99;refine (HM.out _).mono ?_;rintro e w1 ⟨rfl,b1⟩;have B1:=hid (kept_trans HB.out b1);clear b1)
        go_roundw
        case rel=>exact ⟨j+1,by omega,by go_num,HSN.out,B1.out⟩
        case measure=>simp [intOf];omega
      | false=>
        rw [hm] at HM
        have HF:=hid (HBAD.out hm)
        have HM:=hid HM
        clear hm
        go_wp2_with (go_at_call 99;refine (HM.out _).mono ?_;rintro e w1 ⟨rfl,b1⟩;have B1:=hid (kept_trans HB.out b1);clear b1)
        go_ret
        exact ⟨ret_bool HF.out.symm,B1.out⟩
    · obtain rfl:j=L.length:=by omega
      have dj:decide ((L.length:Int)<(L.length:Int))=false:=decide_eq_false (by omega)
      rw [List.take_length] at hall
      have HALL:=hid hall
      clear hall
      go_wp2
      go_ret
      exact ⟨ret_bool HALL.out.symm,hb⟩
end Go.Proofs.YtpdjnefgkcmdnaaGreatDoor
