/- The statements of stage 5: NamesParents. -/
import Derived.Test.YtpdjnefgkcmdnaaGreatDoorPthG
namespace Go.Proofs.YtpdjnefgkcmdnaaGreatDoor
open Go.RowKit Go.Shelf
set_option linter.unusedSimpArgs false
set_option linter.unusedVariables false
set_option maxRecDepth 100000

theorem rowS_head {w:World} {ad:Addr} {c:Nat} {A B:List ByteArray} (h:RowS w (some ad) c (A++B)):RowS w (some ad) c A:=by
  obtain ⟨h1,h2,h3,h4,h5⟩:=h
  have hl:(A++B).length=A.length+B.length:=List.length_append
  refine ⟨by simp,by omega,h3,(fun h=>by cases h),fun hn=>?_⟩
  obtain ⟨b',o',e',hb',hc'⟩:=h5 (by omega)
  refine ⟨b',o',e',hb',fun j u hu=>hc' j u ?_⟩
  rw [List.map_append,List.getElem?_append_left (by have:=(List.getElem?_eq_some_iff.1 hu).1;exact this)]
  exact hu
theorem parent_none (X:List UInt8) (hX:X.length≤1000) (ho:pathO X=none∨pathO X=some []) (w:World) :
    Calls Tryz.prog 84 #[.string (strB X)] w fun e w'=>e=.returned (.tuple #[.slice none 0 0,.string ⟨#[]⟩,.int .i64 15])∧Below w.heap.size w w':=
  (parent_any X hX w).mono fun e w' h=>by
    rcases h with ⟨L,y,a,c,h1,h2,h3,h4,h5⟩ | ⟨h1,h2,h3⟩
    · rcases ho with ho | ho
      · rw [ho] at h1;cases h1
      · rw [ho] at h1;injection h1 with h1;exact absurd h1 (by simp)
    · exact ⟨h2,h3⟩