/- Parts of the proof. -/
import Derived.Shelf.SlIter.Nil
import Derived.Shelf.SortM.Plain
import Derived.Shelf.SortM.SortNone
import Derived.Ground.GgzProg
import Derived.Ground.SlgmProg
import Derived.Sort.KeysCollected
import Derived.Test.YtcanemamnmmbcaaGreatDoorQai
namespace Go.Proofs.YtcanemamnmmbcaaGreatDoor
open Go.RowKit
set_option linter.unusedSimpArgs false
set_option linter.unusedVariables false
set_option linter.unusedSectionVars false
set_option maxRecDepth 100000
set_option maxHeartbeats 8000000
section
open Go.Shelf
def FT:Go.Shelf.Ren:=⟨fun | 7=>92 | 10=>107 | n=>n,fun | 23=>95 | 26=>9 | 3=>62 | 28=>140 | 0=>0 | 27=>139 | 33=>57 | 4=>4 | n=>n,fun | n=>n⟩
theorem Jo:Go.Proofs.SlLaysZ.n7 Tryz.prog FT:={
  mixed:=κ
  f7:=⟨Tryz.f92.name,by decide,Tryz.func92.trans (congrArg some κ)⟩
  f10:=⟨Tryz.f107.name,by decide,Tryz.func107.trans (congrArg some κ)⟩
  t0:=υ0
  a0:=Tryz.isAgg0
  z0:=Tryz.sizeOf0
  v0:=Tryz.zeroValue0
  t4:=υ4
  a4:=Tryz.isAgg4
  z4:=Tryz.sizeOf4
  v4:=Tryz.zeroValue4
  t23:=υ95
  a23:=Tryz.isAgg95
  z23:=Tryz.sizeOf95
  v23:=Tryz.zeroValue95
  t26:=υ9
  a26:=Tryz.isAgg9
  z26:=Tryz.sizeOf9
  v26:=Tryz.zeroValue9
  t27:=υ139
  a27:=Tryz.isAgg139
  z27:=Tryz.sizeOf139
  v27:=Tryz.zeroValue139
  t28:=υ140
  a28:=Tryz.isAgg140
  z28:=Tryz.sizeOf140
  v28:=Tryz.zeroValue140
  t33:=υ57
  a33:=Tryz.isAgg57
  z33:=Tryz.sizeOf57
  v33:=Tryz.zeroValue57 }
def GI:Go.Shelf.Ren:=⟨fun | 6=>91 | 8=>105 | 9=>106 | 11=>127 | 13=>95 | 12=>128 | 23=>116 | 24=>117 | 14=>140 | 15=>141 | 16=>142 | 17=>143 | 18=>144 | 19=>145 | 20=>146 | 21=>147 | 22=>148 | 25=>155 | 26=>130 | 27=>131 | 28=>156 | 29=>157 | 30=>158 | 31=>161 | n=>n,fun | 26=>9 | 28=>140 | 24=>33 | 0=>0 | 3=>3 | 37=>145 | 48=>169 | 50=>171 | 4=>4 | 40=>162 | 39=>161 | 45=>166 | 5=>5 | 9=>9 | 51=>182 | 55=>186 | 57=>200 | 58=>201 | 33=>57 | n=>n,fun | n=>n⟩
theorem JC:Go.Proofs.SlLaysZ.n6 Tryz.prog GI:={
  mixed:=κ
  f6:=⟨Tryz.f91.name,by decide,Tryz.func91.trans (congrArg some κ)⟩
  f8:=⟨Tryz.f105.name,by decide,Tryz.func105.trans (congrArg some κ)⟩
  f11:=⟨Tryz.f127.name,by decide,Tryz.func127.trans (congrArg some κ)⟩
  t0:=υ0
  a0:=Tryz.isAgg0
  z0:=Tryz.sizeOf0
  v0:=Tryz.zeroValue0
  t24:=υ33
  a24:=Tryz.isAgg33
  z24:=Tryz.sizeOf33
  v24:=Tryz.zeroValue33
  t26:=υ9
  a26:=Tryz.isAgg9
  z26:=Tryz.sizeOf9
  v26:=Tryz.zeroValue9
  t28:=υ140
  a28:=Tryz.isAgg140
  z28:=Tryz.sizeOf140
  v28:=Tryz.zeroValue140
  i26:=by kernel_rfl }
def KK:Go.Shelf.Ren:=⟨fun | 6=>106 | 8=>95 | 9=>128 | 19=>116 | 20=>117 | 21=>140 | 22=>141 | 23=>142 | 24=>143 | 25=>144 | 26=>145 | 27=>146 | 28=>147 | 29=>148 | 36=>155 | 31=>130 | 32=>131 | 37=>156 | 38=>157 | 39=>158 | 41=>161 | n=>n,fun | 27=>33 | 29=>9 | 3=>3 | 32=>145 | 26=>33 | 0=>0 | 44=>169 | 46=>171 | 4=>4 | 36=>162 | 35=>161 | 41=>166 | 5=>5 | 9=>9 | 53=>182 | 57=>186 | 63=>200 | 64=>201 | n=>n,fun | n=>n⟩
theorem KJ:Go.Proofs.SlLaysM.n6 Tryz.prog KK:={
  mixed:=κ
  f6:=⟨Tryz.f106.name,by decide,Tryz.func106.trans (congrArg some κ)⟩
  f8:=Tryz.func95.trans (congrArg some κ)
  f9:=⟨Tryz.f128.name,by decide,Tryz.func128.trans (congrArg some κ)⟩
  f19:=Tryz.func116.trans (congrArg some κ)
  f20:=Tryz.func117.trans (congrArg some κ)
  f21:=⟨Tryz.f140.name,by decide,Tryz.func140.trans (congrArg some κ)⟩
  f22:=⟨Tryz.f141.name,by decide,Tryz.func141.trans (congrArg some κ)⟩
  f23:=⟨Tryz.f142.name,by decide,Tryz.func142.trans (congrArg some κ)⟩
  f24:=⟨Tryz.f143.name,by decide,Tryz.func143.trans (congrArg some κ)⟩
  f25:=⟨Tryz.f144.name,by decide,Tryz.func144.trans (congrArg some κ)⟩
  f26:=⟨Tryz.f145.name,by decide,Tryz.func145.trans (congrArg some κ)⟩
  f27:=⟨Tryz.f146.name,by decide,Tryz.func146.trans (congrArg some κ)⟩
  f28:=⟨Tryz.f147.name,by decide,Tryz.func147.trans (congrArg some κ)⟩
  f29:=⟨Tryz.f148.name,by decide,Tryz.func148.trans (congrArg some κ)⟩
  f31:=Tryz.func130.trans (congrArg some κ)
  f32:=Tryz.func131.trans (congrArg some κ)
  f36:=⟨Tryz.f155.name,by decide,Tryz.func155.trans (congrArg some κ)⟩
  f37:=⟨Tryz.f156.name,by decide,Tryz.func156.trans (congrArg some κ)⟩
  f38:=⟨Tryz.f157.name,by decide,Tryz.func157.trans (congrArg some κ)⟩
  f39:=⟨Tryz.f158.name,by decide,Tryz.func158.trans (congrArg some κ)⟩
  f41:=⟨Tryz.f161.name,by decide,Tryz.func161.trans (congrArg some κ)⟩
  t0:=υ0
  a0:=Tryz.isAgg0
  z0:=Tryz.sizeOf0
  v0:=Tryz.zeroValue0
  t3:=υ3
  a3:=Tryz.isAgg3
  z3:=Tryz.sizeOf3
  v3:=Tryz.zeroValue3
  t4:=υ4
  a4:=Tryz.isAgg4
  z4:=Tryz.sizeOf4
  v4:=Tryz.zeroValue4
  t5:=υ5
  a5:=Tryz.isAgg5
  z5:=Tryz.sizeOf5
  v5:=Tryz.zeroValue5
  t9:=υ9
  a9:=Tryz.isAgg9
  z9:=Tryz.sizeOf9
  v9:=Tryz.zeroValue9
  t26:=υ33
  a26:=Tryz.isAgg33
  z26:=Tryz.sizeOf33
  v26:=Tryz.zeroValue33
  t27:=υ33
  a27:=Tryz.isAgg33
  z27:=Tryz.sizeOf33
  v27:=Tryz.zeroValue33
  t29:=υ9
  a29:=Tryz.isAgg9
  z29:=Tryz.sizeOf9
  v29:=Tryz.zeroValue9
  t32:=υ145
  a32:=Tryz.isAgg145
  z32:=Tryz.sizeOf145
  v32:=Tryz.zeroValue145
  t35:=υ161
  a35:=Tryz.isAgg161
  z35:=Tryz.sizeOf161
  v35:=Tryz.zeroValue161
  t36:=υ162
  a36:=Tryz.isAgg162
  z36:=Tryz.sizeOf162
  v36:=Tryz.zeroValue162
  t41:=υ166
  a41:=Tryz.isAgg166
  z41:=Tryz.sizeOf166
  v41:=Tryz.zeroValue166
  t44:=υ169
  a44:=Tryz.isAgg169
  z44:=Tryz.sizeOf169
  v44:=Tryz.zeroValue169
  t46:=υ171
  a46:=Tryz.isAgg171
  z46:=Tryz.sizeOf171
  v46:=Tryz.zeroValue171
  t53:=υ182
  a53:=Tryz.isAgg182
  z53:=Tryz.sizeOf182
  v53:=Tryz.zeroValue182
  t57:=υ186
  a57:=Tryz.isAgg186
  z57:=Tryz.sizeOf186
  v57:=Tryz.zeroValue186
  t63:=υ200
  a63:=Tryz.isAgg200
  z63:=Tryz.sizeOf200
  v63:=Tryz.zeroValue200
  t64:=υ201
  a64:=Tryz.isAgg201
  z64:=Tryz.sizeOf201
  v64:=Tryz.zeroValue201 }
open Go.Sort Go.RowKit Go.Maps in
theorem KL (m:Nat):AnyZ.SortsIn Tryz.prog GI Fence.wide m:=
  ⟨fun blk off cap ss W hH hblk hsz=>callsIn_wide.2 (AnyM.slices_Sort_string KJ blk off cap ss W hH hblk hsz),
   fun p cap W=>callsIn_wide.2 (AnyM.slices_Sort_string_none KJ p cap W)⟩
open Go.Sort Go.RowKit Go.Maps in
theorem GH (mb:Option Nat) (W:World):CallsIn Fence.wide 5 Tryz.prog 92 #[.map mb] W fun e w'=>e=.returned (.func (.func 107) #[] #[π W.heap.size])∧w'=W.alloc (.cells #[.map mb] 95):=
  AnyZ.keys_in Jo Fence.wide 5 trivial rfl mb W
open Go.Sort Go.RowKit Go.Maps in
theorem Fi {H:Type} (b nn:Nat) (D0:DataW H) (R:Value→Option (DataW H×List MemPlace)) (w:World) (hown:w.ownsMap Tryz.prog 9 R b nn D0) (hmax:Maps.size D0≤maxLen) (hbytes:Maps.size D0*16≤140737488355328) :
    CallsIn Fence.wide 5 Tryz.prog 91 #[.func (.func 107) #[] #[π w.heap.size]] (w.alloc (.cells #[.map (some b)] 95)) fun e w'=>∃ (v:Value) (ss:List (List UInt8)),e=.returned v∧ss.Perm (strKeys D0) ∧
      w'.ownsRow (w.alloc (.cells #[.map (some b)] 95)).heap.size 9 1 v ss.length ((ss.mergeSort (fun x y=>decide (x≤y))).map encStr)∧(v=.slice none 0 0↔ss=[])∧Below (w.alloc (.cells #[.map (some b)] 95)).heap.size (w.alloc (.cells #[.map (some b)] 95)) w':=by
  have hbl:=hown.lt
  have hseq:SeqGives Fence.wide 2 Tryz.prog 107 #[π w.heap.size] encStr (fun ss=>ss.Perm (strKeys D0)) (Maps.size D0) (w.alloc (.cells #[.map (some b)] 95)):=
    AnyZ.keys_gives (ρ:=FT) { Jo with } Fence.wide _ trivial rfl ω w.heap.size b nn D0 _ (by simp) (by simp) (by
      obtain ⟨es,clock,hb,Ft,hs,hD⟩:=hown
      exact ⟨es,clock,(Below.heap_alloc _ _ b hbl).trans hb,Ft,hs,hD⟩)
  exact AnyZ.sorted_in JC Fence.wide 5 trivial trivial trivial trivial rfl ω (KL _) (enters_of Tryz.func106 κ rfl) 107 #[π w.heap.size] trivial (enters_of Tryz.func107 κ rfl) _ _ hmax hbytes _ hseq
open Go.Sort Go.RowKit Go.Maps in
theorem EC (w:World) :
    CallsIn Fence.wide 5 Tryz.prog 91 #[.func (.func 107) #[] #[π w.heap.size]] (w.alloc (.cells #[.map none] 95)) fun e w'=>∃ (v:Value) (ss:List (List UInt8)),e=.returned v∧ss=[] ∧
      w'.ownsRow (w.alloc (.cells #[.map none] 95)).heap.size 9 1 v ss.length ((ss.mergeSort (fun x y=>decide (x≤y))).map encStr)∧(v=.slice none 0 0↔ss=[])∧Below (w.alloc (.cells #[.map none] 95)).heap.size (w.alloc (.cells #[.map none] 95)) w':=by
  have hseq:SeqGives Fence.wide 2 Tryz.prog 107 #[π w.heap.size] encStr (fun ss:List (List UInt8)=>ss=[]) 0 (w.alloc (.cells #[.map none] 95)):=
    AnyZ.keys_gives_nil (ρ:=FT) { Jo with } Fence.wide _ trivial rfl w.heap.size _ (by simp) (by simp)
  exact AnyZ.sorted_in JC Fence.wide 5 trivial trivial trivial trivial rfl ω (KL _) (enters_of Tryz.func106 κ rfl) 107 #[π w.heap.size] trivial (enters_of Tryz.func107 κ rfl) _ 0 (Nat.zero_le _) ω _ hseq
end
section
open Go.RowKit Go.Shelf Go.Sort Go.Maps
theorem Jc (x:ByteArray):∀ S,(FR x S).Perm (x::S)
  | []=>List.Perm.refl _
  | y::r=>by
    unfold FR
    split
    · exact List.Perm.refl _
    · exact ((Jc x r).cons y).trans (List.Perm.swap x y r)
def leN (x y:ByteArray):Prop:=x.data.toList≤y.data.toList
theorem Jx (x:ByteArray):∀ S,S.Pairwise leN→(FR x S).Pairwise leN
  | [],_=>by simp [FR]
  | y::r,h=>by
    have h1:=List.pairwise_cons.1 h
    unfold FR
    split
    · rename_i hl
      have hl':x.data.toList<y.data.toList:=by simpa [ltN] using hl
      have hle:leN x y:=List.le_of_lt hl'
      refine List.pairwise_cons.2 ⟨fun z hz=>?_,h⟩
      rcases List.mem_cons.1 hz with rfl | hz
      · exact hle
      · exact List.le_trans hle (h1.1 z hz)
    · rename_i hl
      have hl':¬ x.data.toList<y.data.toList:=by simpa [ltN] using hl
      refine List.pairwise_cons.2 ⟨fun z hz=>?_,Jx x r h1.2⟩
      rcases List.mem_cons.1 ((Jc x r).mem_iff.1 hz) with rfl | hz
      · exact List.not_lt.1 hl'
      · exact h1.1 z hz
theorem It:∀ (L A:List ByteArray),A.Pairwise leN→(L.foldl (fun acc x=>FR x acc) A).Pairwise leN∧(L.foldl (fun acc x=>FR x acc) A).Perm (A++L)
  | [],A,h=>⟨h,by simp⟩
  | x::r,A,h=>by
    have ih:=It r (FR x A) (Jx x A h)
    refine ⟨ih.1,ih.2.trans ?_⟩
    refine ((Jc x A).append_right r).trans ?_
    exact (List.perm_middle (a:=x) (l₁:=A) (l₂:=r)).symm
theorem Ek (L:List ByteArray):(AC L).Perm L:=by simpa [AC] using (It L [] List.Pairwise.nil).2
theorem KP (L:List ByteArray):(AC L).Pairwise leN:=(It L [] List.Pairwise.nil).1
theorem MO (L:List ByteArray):(AC L).map (·.data.toList)=(L.map (·.data.toList)).mergeSort (fun x y=>decide (x≤y)):=by
  have tr:∀ a b c:List UInt8,decide (a≤b)=true→decide (b≤c)=true→decide (a≤c)=true:=fun a b c h1 h2=>by simp only [decide_eq_true_eq] at *;exact List.le_trans h1 h2
  have tot:∀ a b:List UInt8,(decide (a≤b)||decide (b≤a))=true:=fun a b=>by simp only [Bool.or_eq_true,decide_eq_true_eq];exact List.le_total a b
  refine List.Perm.eq_of_pairwise (le:=fun a b=>decide (a≤b)=true) (fun a b _ _ h1 h2=>?_) ?_ (List.pairwise_mergeSort tr tot _) ?_
  · simp only [decide_eq_true_eq] at h1 h2
    exact List.le_antisymm h1 h2
  · rw [List.pairwise_map]
    exact (KP L).imp (fun h=>by rw [decide_eq_true_iff];exact h)
  · exact ((Ek L).map _).trans (List.mergeSort_perm (L.map (·.data.toList)) (fun x y=>decide (x≤y))).symm
theorem Qx (L:List ByteArray):L.flatMap sE=(L.map (·.data.toList)).map encStr:=by
  rw [LP,List.map_map];rfl
theorem MapG.keysS {w:World} {b n:Nat} {g:ByteArray→Option (Option Nat)} (h:MapG KN w b n g) {L:List ByteArray} (hnd:L.Nodup) (hL:∀ i,i∈L↔i.size≤maxLen∧(g i).isSome=true) :
    ∃ D:DataW Unit,w.ownsMap Tryz.prog 9 ptR b n D∧(L.map (·.data.toList)).Perm (strKeys D)∧Maps.size D=L.length:=by
  obtain ⟨D,h1,h2,h3⟩:=h
  obtain ⟨es,hD,hkeys⟩:=h1.keysOf
  obtain ⟨es',hD',hpw⟩:=h1.tidy QE
  have e:es=es':=by have:=hD.symm.trans hD';injection this
  subst e
  have hinj:∀ {x y:ByteArray},x.data.toList=y.data.toList→x=y:=fun {x y} h=>ByteArray.ext (Array.toList_inj.1 h)
  have hp:(L.map (·.data.toList)).Perm (strKeys D):=by
    rw [hD]
    refine perm_strKeys hpw (fun p hp=>?_) ?_ (fun x=>?_)
    · obtain ⟨v,hv⟩:=hkeys p hp
      obtain ⟨s,hs,_,e⟩:=Im hv
      exact ⟨s.data.toList,e⟩
    · exact List.pairwise_map.2 (hnd.imp fun hne e=>hne (hinj e))
    · rw [← hD]
      constructor
      · intro hx
        obtain ⟨i,hi,rfl⟩:=List.mem_map.1 hx
        obtain ⟨q1,q2⟩:=(hL i).1 hi
        have z:=h2 i q1
        rw [q2] at z;exact z
      · intro hx
        have hx':=hx
        rw [hD,Maps.has_eq,List.any_eq_true] at hx'
        obtain ⟨p,hp,hs⟩:=hx'
        have e1:=WideAt.sameKey_eq hs
        obtain ⟨v,hv⟩:=hkeys p hp
        obtain ⟨s,hs2,_,e2⟩:=Im hv
        have e3:s.data.toList=x:=by
          have:=e2.symm.trans e1
          simpa [MS] using this
        refine List.mem_map.2 ⟨s,(hL s).2 ⟨hs2,?_⟩,e3⟩
        rw [← h2 s hs2]
        rw [← e3] at hx;exact hx
  refine ⟨D,h1,hp,?_⟩
  have:=hp.length_eq
  rw [List.length_map] at this
  rw [this,hD]
  show es.length=(es.map _).length
  rw [List.length_map]
def PP (w:World) (b n:Nat) (g:ByteArray→Option (Option Nat)) (f:Value):Prop:=∃ w0,w=w0.alloc (.cells #[.map (some b)] 95)∧f=.func (.func 107) #[] #[π w0.heap.size]∧MapG KN w0 b n g
theorem SI {w:World} {R:List Ch} {F:FsM} {A:AdM} {k:Nat} (hS:Sep w (Av F A::R)) (hk:k<F.N.length) (hd:F.dir k=true):CallsR Tryz.prog 92 #[.map (some (A.mb k))] w fun v w'=>Sep w' (Av F A::R)∧PP w' (A.mb k) A.B (fun s=>elA A (Ai F.E k s)) v:=by
  refine ((callsIn_wide (n:=5)).1 (GH (some (A.mb k)) w)).mono ?_
  rintro e w' ⟨rfl,rfl⟩
  exact ⟨_,rfl,hS.mono (KY _ _),w,rfl,rfl,(hS.get 0 rfl:NdP F.nE A.nC w).mp k hk hd⟩
theorem Rj {w:World} {R:List Ch} {b n:Nat} {g:ByteArray→Option (Option Nat)} {f:Value} (hS:Sep w R) (h:PP w b n g f) {L:List ByteArray} (hnd:L.Nodup) (hL:∀ i,i∈L↔i.size≤maxLen∧(g i).isSome=true) (hl:L.length≤1000) :
    CallsR Tryz.prog 91 #[f] w fun v w'=>∃ sa sc,v=.slice sa (AC L).length sc∧Sep w' (Ak 0 9 1 sa (AC L).length sc ((AC L).flatMap sE)::R):=by
  obtain ⟨w0,rfl,rfl,hm⟩:=h
  obtain ⟨D,h1,h2,h3⟩:=hm.keysS hnd hL
  refine ((callsIn_wide (n:=5)).1 (Fi b n D ptR w0 h1 (by rw [h3];unfold maxLen;omega) (by rw [h3];omega))).mono ?_
  rintro e w' ⟨v,ss,rfl,hp,hrow,_,hb⟩
  obtain ⟨sa,sc,rfl,hO⟩:=Fb hrow
  have e1:ss.mergeSort (fun x y=>decide (x≤y))=(AC L).map (·.data.toList):=by
    rw [MO]
    exact mergeSort_of_perm (hp.trans h2.symm)
  have e2:ss.length=(AC L).length:=by
    have z:=(hp.trans h2.symm).length_eq
    rw [List.length_map] at z
    rw [z,(Ek L).length_eq]
  rw [e1,← Qx,e2] at hO
  refine ⟨_,rfl,sa,sc,by rw [e2],?_⟩
  exact hS.own hb hO
theorem Pp {F:FsM} {δ:Nat→Int} (hok:FsC F δ) (A:AdM) (k:Nat) (s:ByteArray):s∈Al F.E k↔s.size≤maxLen∧(elA A (Ai F.E k s)).isSome=true:=by
  unfold elA
  rw [Option.isSome_map]
  exact ⟨fun h=>⟨IO (Jg hok h),EL.1 h⟩,fun h=>EL.2 h.2⟩
end
section
theorem QW {X:List UInt8} (h:Jj X=false) (h1:(Ag X).isSome=true) (h2:¬ X=[47]):False:=by
 unfold Jj at h
 refine dF h ⟨(fun q=>by rw [q] at h1;cases h1),fun q=>h2 (Cm.1 q)⟩
theorem AJ {X:List UInt8} (h:Jj X=true):(Ag X).isSome=true∧¬ X=[47]:=by
 unfold Jj at h
 obtain ⟨h1,h2⟩:=dT h
 exact ⟨Option.isSome_iff_ne_none.2 h1,fun q=>h2 (Cm.2 q)⟩
theorem Gk {X:List UInt8} (h:Jj X=true):¬ Ag X=some []:=(dT (show decide (Ag X≠none∧Ag X≠some [])=true from h)).2
section
variable {F:FsM} {δ:Nat→Int} {X:List UInt8} {d n m:Nat} {s:ByteArray}
theorem Lz (hl:Ai F.E d s=none):∀ j t,Ai (movedF F X d s n).E j t=if j=d∧t=s then some n else Ai (Aq F (Aa F X).2.1 (Aa F X).2.2).E j t:=by
 intro j t
 show Ai (BY F.E _ _++[_]) j t=_
 rw [Dc (by rw [BA,hl];split<;>rfl)];rfl
theorem KB (hok:FsC F δ) (hp:(Aa F X).1=0) (hx:Ai F.E (Aa F X).2.1 (Aa F X).2.2=some n) (hl:Ai F.E d s=some m) (hr:RenOk F n m) {F2:FsM} (hE:F2.E=BY F.E (Aa F X).2.1 (Aa F X).2.2:=by rfl):∀ j t,Ai (movedF (Af F d s m) X d s n).E j t=if j=d∧t=s then some n else Ai F2.E j t:=by
 intro j t
 obtain ⟨e1,e2⟩:=FM hok hp hx hl hr
 show Ai (BY (Af F d s m).E (Aa (Af F d s m) X).2.1 (Aa (Af F d s m) X).2.2++[_]) j t=_
 rw [e1,Dz,hE,Dc (by rw [BA];split;(· rfl);(· rw [BA,if_pos ⟨rfl,rfl⟩])),BA,BA,BA]
 by_cases q:j=d∧t=s
 ·rw [if_pos q,if_pos q]
 ·rw [if_neg q,if_neg q,if_neg q]
theorem Ji {A:AdM}:opG (movedF (Af F d s m) X d s n) A=opG F A:=by
 unfold opG
 rw [show (movedF (Af F d s m) X d s n).O=F.O from Ke F d s m]
theorem LA (hd:F.dir m=true):(movedF (Af F d s m) X d s n).N=F.N:=by
 show (Af F d s m).N=F.N
 unfold Af;rw [if_pos hd];rfl
theorem Py (hd:F.dir m=false):(movedF (Af F d s m) X d s n).N=(BE F m (-1)).N:=by
 show (Af F d s m).N=_
 unfold Af;rw [if_neg (AH hd)];rfl
end
section
variable {F:FsM} {A:AdM} {k:Nat} {δ:Nat→Int} {X:List UInt8} {d n m:Nat} {s:ByteArray}
theorem Hf {F G:FsM} {j:Nat} (hx:Ai F.E (Aa F X).2.1 (Aa F X).2.2=some n) (hE:∀ x∈(movedF G X d s n).E,x∈F.E∨x.nd=n) (hr:KA (movedF G X d s n) j):KA F j:=by
 rcases hr with e | ⟨x,hxm,e⟩
 ·exact .inl e
 ·rcases hE x hxm with q | q
  ·exact .inr ⟨x,q,e⟩
  ·obtain ⟨y,hy,_,_,e2⟩:=BL hx
   exact .inr ⟨y,hy,by rw [e2,← q,e]⟩
theorem AdOk.moved (h:AdOk F A k) (hx:Ai F.E (Aa F X).2.1 (Aa F X).2.2=some n):AdOk (movedF F X d s n) A.inc (k+1):=
 h.step (fun j hd hr=>.inl ⟨hd,Hf hx (fun x hxm=>by
  rcases List.mem_append.1 hxm with q | q
  ·exact .inl (List.mem_filter.1 q).1
  ·rw [List.mem_singleton.1 q];exact .inr rfl) hr,rfl⟩) (Nat.le_refl _) (Nat.le_succ _)
theorem Jf {x:EntM} (hxm:x∈(movedF (Af F d s m) X d s n).E):(x∈F.E∧¬ (x.dn=d∧x.nm=s))∨x.nd=n:=by
 rcases List.mem_append.1 hxm with q | q
 ·have z:=(List.mem_filter.1 q).1
  rw [Dz] at z
  obtain ⟨z1,z2⟩:=List.mem_filter.1 z
  exact .inl ⟨z1,fun e=>by rw [decide_eq_true e] at z2;cases z2⟩
 ·rw [List.mem_singleton.1 q];exact .inr rfl
theorem AdOk.movedF (h:AdOk F A k) (hok:FsC F δ) (hp:(Aa F X).1=0) (hx:Ai F.E (Aa F X).2.1 (Aa F X).2.2=some n) (hl:Ai F.E d s=some m) (hr:RenOk F n m) (hf:F.dir m=false):AdOk (Go.Proofs.YtcanemamnmmbcaaGreatDoor.movedF (Af F d s m) X d s n) A.inc (k+1):=
 h.step (fun j hd hj=>.inl ⟨by
  have hd':(Af F d s m).dir j=true:=hd
  rw [Dl (hok.look_lt hl).1] at hd';exact hd',Hf hx (fun x hxm=>(Jf hxm).imp (fun q=>q.1) (fun q=>q)) hj,rfl⟩) (Nat.le_refl _) (Nat.le_succ _)
theorem AdOk.movedD (h:AdOk F A k) (hok:FsC F δ) (hp:(Aa F X).1=0) (hx:Ai F.E (Aa F X).2.1 (Aa F X).2.2=some n) (hl:Ai F.E d s=some m) (hr:RenOk F n m) (hm:F.dir m=true) (i:Int):AdOk (Go.Proofs.YtcanemamnmmbcaaGreatDoor.movedF (Af F d s m) X d s n) (A.lnk m i).inc (k+1):=
 h.step (fun j hd hj=>by
  have hd':(Af F d s m).dir j=true:=hd
  rw [Dl (hok.look_lt hl).1] at hd'
  refine .inl ⟨hd',Hf hx (fun x hxm=>(Jf hxm).imp (fun q=>q.1) (fun q=>q)) hj,if_neg fun e=>?_⟩
  subst e
  rcases hj with e0 | ⟨x,hxm,e⟩
  ·have:=(hok.look_lt hl).2;omega
  ·rcases Jf hxm with ⟨q1,q2⟩ | q
   ·have z:=EY hok.ed q1
    rw [e] at z
    exact q2 (hok.one z hl hd')
   ·exact hr.ne (e.symm.trans q)) (Nat.le_refl _) (Nat.le_succ _)
end
theorem Nd {w:World} {cf ob n:Nat} {F:FsM} {A:AdM} {R:List Ch} {c:Int} {x:CallM} (hS0:Sep w ((cP cf ob F A)++R)) (hfo:FsOk F) (hA:AdOk F A n) (hn:n≤900) (hs:SmS F) (h1:x.p1.length≤1000) (h2:x.p2.length≤1000) (h3:x.data.length≤1000) (hwx:wfD (c,x.fd)) (hcl:1≤c∧c≤8) :
  CallsR Tryz.prog 57 #[π cf,ν c,.agg (cL x).toArray] w (fun v w'=>∃ A' sa sc,v=.tuple #[Du (r0 (Am F x.p1 x.p2).2) sa sc,ν (Am F x.p1 x.p2).2.e]∧Sep w' (Ak 0 9 1 sa (Am F x.p1 x.p2).2.names.length sc ((Am F x.p1 x.p2).2.names.flatMap sE)::(cP cf ob ((Am F x.p1 x.p2).1) A')++R)∧AdOk (Am F x.p1 x.p2).1 A' (n+1)):=by
 have hS:=Sep.tail_many (xs:=cP cf ob F A) hS0;clear hS0
 have hz:SmF F:=hs.sm;have hok:=hfo.toFsC
 have hz0:=hz;obtain ⟨hz1,hz2,hz3⟩:F.N.length≤1000∧F.E.length≤1000∧F.O.length≤1000:=hz
 refine AB Tryz.func57 rfl (N:=107) Tryz.ntmps57 (by show 3≤107;decide) [(0,π cf),(1,ν c),(2,.agg (cL x).toArray)] rfl fun _ h1=>sqr fun _ hK3=>so (wn rfl) fun _ hK1=>Cv h1 rfl rfl rfl rfl rfl (z:=(cL x)) rfl hS fun _ g4 w7 h5 s8 _ _=>hK1 _ _ ?_
 refine so (wn rfl) fun _ hK2=>BB h5 rfl rfl rfl rfl (z:=zL) (fun _=>rfl) s8 fun _ g1 w1 h4 s1 _ _=>hK2 _ _ ?_
 refine mv h4 rfl fun _ h6=>h6.sk [7,6,5,0,2] rfl fun h7=>?_
 clear h1
 refine wpList_nil<|hK3 _ _<|sq fun _ hK4=>sqr fun _ hK5=>fav h7 rfl (An _ _) fun _ h8=>ldv h8 s1 1 υ9 rfl rfl rfl rfl fun _ h9=>cl h9 rfl Fr (Jv s1 x.p1 ω) fun _ v1 w2 r1 h10=>?_
 obtain ⟨rfl,s2⟩:=r1
 refine mvs 2 h10 rfl fun _ h11=>sg h11 (wF h11 rfl rfl rfl) rfl rfl rfl (fun hC1=>by have hq:=(Ey (Bb hC1));exact rfa h11 rfl rfl (fun w=>AS g4 0 w) _) fun _ h12=>sg h12 (wF h12 rfl rfl rfl) rfl rfl rfl (fun hC2=>by have hq:=(Ey (Bb hC2));exact (rld h12 rfl (opg rfl hC2) (ldB υ9 rfl (s2.get 1 rfl:Blk _ _ _ _) rfl))) fun _ h13=>?_
 rcases bC (Jj x.p1) with hc1 | hc1
 ·skip
  refine so ((wF h13 rfl rfl rfl).trans (BC (Bq hc1))) fun _ hK6=>CS h13 rfl rfl rfl (xs:=[.tmp 20]) rfl Fr rfl (vs:=[σ x.p2]) (Gh (opg rfl (BC (Bq hc1))) rfl) (args:=#[σ x.p2]) rfl (Jv s2 x.p2 ω) fun _ v2 w3 r2 h14=>hK6 _ _ ?_
  obtain ⟨rfl,s3⟩:=r2
  refine sv h14 ((wF h14 rfl rfl rfl).trans (BC (Bq hc1))) rfl rfl rfl (NL h14 rfl (b:=Jj x.p2) rfl) fun _ h15=>sv1 h15 rfl (BT h15 rfl (E:=(!(Jj x.p1))) (b:=false) rfl (Bq hc1) rfl) fun _ h16=>h16.sn [23,7,6,5,0,2] rfl fun h17=>hK5 _ _ ?_
  rcases bC (Jj x.p2) with hc2 | hc2
  ·skip
   refine wcF h17 rfl (Bq hc2)<|h17.sk [7,6,5,0,2] rfl fun h18=>wp_skip<|hK4 _ _<|sqr fun _ hK7=>mv h18 rfl fun _ h19=>fav h19 rfl (An _ _) fun _ h20=>ldv h20 s3 1 υ9 rfl rfl rfl rfl fun _ h21=>?_
   rcases bC (decide ((Ac F x.p1).1=0)) with hc3 | hc3
   ·skip
    have hp1:(Ac F x.p1).1=0:=(dT hc3)
    have hfl72:=FsC.find_lt (F:=F) hok x.p1
    refine cl h21 rfl AZ (Es (cf:=cf) (A:=A) (F:=F) (s3.pk [2,3,4,0,1,5] rfl) hok hz0 ω ω) fun _ v3 w4 r3 h22=>?_
    obtain ⟨rfl,s4⟩:=r3
    refine mvs 5 h22 rfl fun _ h23=>h23.sn [9,8,7,6,5,0,2] rfl fun h24=>hK7 _ _<|sq fun _ hK8=>sqr fun _ hK9=>mv h24 rfl fun _ h25=>bv h25 rfl (cNe _ _ _ _ rfl) fun _ h26=>h26.sn [33,9,8,7,6,5,0,2] rfl fun h27=>hK9 _ _<|wcF h27 rfl rfl<|h27.sk [9,8,7,6,5,0,2] rfl fun h28=>?_
    refine wp_skip<|hK8 _ _<|sq fun _ hK10=>sqr fun _ hK11=>mvs 2 h28 rfl fun _ h29=>sv1 h29 rfl (rfa h29 rfl rfl (fun w=>Ay (A.ad (Ac F x.p1).2) 0 w)) fun _ h30=>sw1 h30 rfl (rld h30 rfl rfl (NdP.c0 (F:=FsM.nE F) (A:=AdM.nC A) (k:=((Ac F x.p1).2)) (s4.get 1 rfl:NdP _ _ _) (show (Ac F x.p1).2<F.N.length from ω) υ3 rfl)) fun _ h31=>bv h31 (z:=.bool (F.dir ((Ac F x.p1).2))) rfl (cEq _ _ _ _ (GZ _)) fun _ h32=>mv h32 rfl fun _ h33=>sg h33 (wT h33 rfl rfl rfl) rfl rfl rfl (fun hC3=>rfa h33 rfl rfl (fun w=>AS g4 0 w) _) fun _ h34=>sg h34 (wT h34 rfl rfl rfl) rfl rfl rfl (fun hC4=>(rld h34 rfl (opg rfl hC4) (ldB υ9 rfl (s4.get 4 rfl:Blk _ _ _ _) rfl))) fun _ h35=>sg h35 (wT h35 rfl rfl rfl) rfl rfl rfl (fun hC5=>rfa h35 rfl rfl (fun w=>An g4 0 w) _) fun _ h36=>?_
    refine sg h36 (wT h36 rfl rfl rfl) rfl rfl rfl (fun hC6=>(rld h36 rfl (opg rfl hC6) (ldB υ9 rfl (s4.get 4 rfl:Blk _ _ _ _) rfl))) fun _ h37=>sg h37 (wT h37 rfl rfl rfl) rfl rfl rfl (fun hC7=>BG h37 rfl (opg rfl hC7) (opg rfl hC7) (Od _ _ _ x.p2 x.p1 rfl) _) fun _ h38=>sv1 h38 rfl (DJ h38 rfl (E:=(F.dir ((Ac F x.p1).2))) (F:=(decide (x.p2≠x.p1))) rfl rfl rfl (fun e=>if_pos (by rw [e];try rfl))) fun _ h39=>mv h39 rfl fun _ h40=>sg h40 (wT h40 rfl rfl rfl) rfl rfl rfl (fun hC8=>by have hq:=(And.intro (AA hC8).1 (dT (AA hC8).2));exact rfa h40 rfl rfl (fun w=>AS g4 0 w) _) fun _ h41=>sg h41 (wT h41 rfl rfl rfl) rfl rfl rfl (fun hC9=>by have hq:=(And.intro (AA hC9).1 (dT (AA hC9).2));exact (rld h41 rfl (opg rfl hC9) (ldB υ9 rfl (s4.get 4 rfl:Blk _ _ _ _) rfl))) fun _ h42=>sg h42 (wT h42 rfl rfl rfl) rfl rfl rfl (fun hC10=>by have hq:=(And.intro (AA hC10).1 (dT (AA hC10).2));exact rfa h42 rfl rfl (fun w=>An g4 0 w) _) fun _ h43=>sg h43 (wT h43 rfl rfl rfl) rfl rfl rfl (fun hC11=>by have hq:=(And.intro (AA hC11).1 (dT (AA hC11).2));exact (rld h43 rfl (opg rfl hC11) (ldB υ9 rfl (s4.get 4 rfl:Blk _ _ _ _) rfl))) fun _ h44=>?_
    rcases bC ((F.dir ((Ac F x.p1).2))&&(decide (x.p2≠x.p1))) with hc4 | hc4
    ·skip
     have hp2:((F.dir ((Ac F x.p1).2))=true)∧(x.p2≠x.p1):=(And.intro (AA hc4).1 (dT (AA hc4).2))
     refine so ((wT h44 rfl rfl rfl).trans hc4) fun _ hK12=>CS h44 rfl rfl rfl (xs:=[.tmp 50,.tmp 52]) rfl JE rfl (vs:=[σ x.p2,σ x.p1]) (Gh (opg rfl hc4) (Gh (opg rfl hc4) rfl)) (args:=#[σ x.p2,σ x.p1]) rfl (Pa s4 x.p2 x.p1 ω ω) fun _ v4 w5 r4 h45=>hK12 _ _ ?_
     obtain ⟨rfl,s5⟩:=r4
     refine sv1 h45 rfl (BT h45 rfl (E:=((F.dir ((Ac F x.p1).2))&&(decide (x.p2≠x.p1)))) (b:=true) rfl hc4 rfl) fun _ h46=>h46.sn [54,9,8,7,6,5,0,2] rfl fun h47=>hK11 _ _ ?_
     rcases bC (CX (Ag x.p2) (Ag x.p1)) with hc5 | hc5
     ·skip
      refine wcT h47 rfl hc5<|h47.sk [9,8,7,6,5,0,2] rfl fun h48=>sqr fun _ hK13=>bu h48 (v:=.agg zL.toArray) rfl (fun w=>κ) fun _ h49=>stA h49 s5 3 rfl rfl rfl κ rfl rfl rfl rfl fun _ w6 h50 s6 _=>h50.sk [55,9,8,6,5,0,2] rfl fun h51=>mv h51 rfl fun _ h52=>h52.sn [7,9,8,6,5,0,2] rfl fun h53=>hK13 _ _<|wp_ret ?_
      try simp only [Exit.then,Exit.inBlock]
      refine rCt h53 s6 3 υ37 rfl rfl rfl rfl rfl ?_
      have hq1:Am F x.p1 x.p2=(F,Au 15):=by unfold Am;rw [if_pos (show ((Ag x.p1).isSome=true∧(Ag x.p2).isSome=true)∧¬ x.p1=[47]∧¬ x.p2=[47] from ⟨⟨(AJ hc1).1,(AJ hc2).1⟩,(AJ hc1).2,(AJ hc2).2⟩),if_pos ω,if_pos (show (F.dir (Ac F x.p1).2=true∧¬ x.p1=x.p2)∧CX (Ag x.p2) (Ag x.p1)=true from ⟨⟨(AA hc4).1,fun w=>(dT (AA hc4).2) w.symm⟩,hc5⟩)]
      rw [hq1]
      exact ⟨A,none,0,rfl,(Sep.tail_un (xs:=[_,_,_]) (s6.pk [0,1,2,5] rfl)).ownNil 0 9 1,hA.mono⟩
     ·skip
      refine wcF h47 rfl hc5<|h47.sk [9,8,7,6,5,0,2] rfl fun h54=>wp_skip<|hK10 _ _<|sqr fun _ hK14=>mv h54 rfl fun _ h55=>fav h55 rfl (AS _ _) fun _ h56=>ldv h56 s5 4 υ9 rfl rfl rfl rfl fun _ h57=>?_
      rcases bC (decide ((Aa F x.p2).1=0)) with hc6 | hc6
      ·skip
       have hp3:(Aa F x.p2).1=0:=(dT hc6)
       have hpl184:=FsC.place (F:=F) (X:=x.p2) hok ω
       have hpl184a:=hpl184.1.1
       refine cl h57 rfl BD (EP (cf:=cf) (A:=A) (F:=F) s5 hok hz0 ω ω) fun _ v5 w8 r5 h58=>?_
       obtain ⟨rfl,s7⟩:=r5
       refine mvs 6 h58 rfl fun _ h59=>h59.sk [11,10,63,62,61,56,60,59,58,57,8,7,6,5,0,2] rfl fun h60=>mv h60 rfl fun _ h61=>h61.sn [9,11,10,8,7,6,5,0,2] rfl fun h62=>hK14 _ _<|sq fun _ hK15=>sqr fun _ hK16=>mv h62 rfl fun _ h63=>bv h63 rfl (cNe _ _ _ _ rfl) fun _ h64=>h64.sn [65,9,11,10,8,7,6,5,0,2] rfl fun h65=>hK16 _ _ ?_
       refine wcF h65 rfl rfl<|h65.sk [9,11,10,8,7,6,5,0,2] rfl fun h66=>wp_skip<|hK15 _ _<|sq fun _ hK17=>sqr fun _ hK18=>mvs 2 h66 rfl fun _ h67=>sv1 h67 rfl (rfa h67 rfl rfl (fun w=>AF (A.ad (Aa F x.p2).2.1) 0 w)) fun _ h68=>sw1 h68 rfl (rld h68 rfl rfl (NdP.c3 (F:=FsM.nE F) (A:=AdM.nC A) (k:=((Aa F x.p2).2.1)) (s7.get 1 rfl:NdP _ _ _) (show (Aa F x.p2).2.1<F.N.length from ω) hpl184.1.2 υ95 rfl)) fun _ h69=>mv h69 rfl fun _ h70=>?_
       rcases bC ((Ai F.E ((Aa F x.p2).2.1) ((Aa F x.p2).2.2)).isSome) with hc7 | hc7
       ·skip
        obtain ⟨m1,hm1⟩:=Option.isSome_iff_exists.1 hc7;have hml232:=FsC.look_lt hok hm1
        refine sw1 h70 rfl (Ds h70 rfl rfl rfl (NdP.lookY (F:=FsM.nE F) (A:=AdM.nC A) (k:=((Aa F x.p2).2.1)) (s7.get 1 rfl:NdP _ _ _) (show (Aa F x.p2).2.1<F.N.length from ω) hpl184.1.2 (CO hpl184.2) hm1)) fun _ h71=>mv h71 rfl fun _ h72=>h72.sn [12,9,11,10,8,7,6,5,0,2] rfl fun h73=>hK18 _ _<|sqr fun _ hK19=>mv h73 rfl fun _ h74=>bv h74 rfl (Iz _ υ62 _ _ _) fun _ h75=>h75.sn [75,12,9,11,10,8,7,6,5,0,2] rfl fun h76=>hK19 _ _<|wcT h76 rfl rfl ?_
        refine h76.sk [12,9,11,10,8,7,6,5,0,2] rfl fun h77=>sq fun _ hK20=>sqr fun _ hK21=>mvs 2 h77 rfl fun _ h78=>?_
        rcases bC (decide (m1=(Ac F x.p1).2)) with hc8 | hc8
        ·skip
         have hp4:m1=(Ac F x.p1).2:=(dT hc8)
         have hmr253:BI F ((Ac F x.p1).2) m1=0:=by unfold BI;rw [if_pos (dT hc8)]
         refine cl h78 rfl By ((by have z:=Eb (cf:=cf) (F:=F) (A:=A) (n0:=(Ac F x.p1).2) (m0:=m1) s7 hok hz0 ω ω;rw [hmr253] at z;exact z)) fun _ v6 w9 r6 h79=>?_
         obtain ⟨rfl,s9⟩:=r6
         refine mv h79 rfl fun _ h80=>h80.sn [13,12,9,11,10,8,7,6,5,0,2] rfl fun h81=>hK21 _ _<|sqr fun _ hK22=>mvs 2 h81 rfl fun _ h82=>sw1 h82 rfl (GG h82 rfl rfl rfl (NdP.eq (F:=FsM.nE F) (A:=AdM.nC A) (j:=m1) (k:=((Ac F x.p1).2)) (s9.get 1 rfl:NdP _ _ _) (show m1<F.N.length from ω) (show (Ac F x.p1).2<F.N.length from ω) _ _)) fun _ h83=>mv h83 rfl fun _ h84=>su h84 ((wF h84 rfl rfl rfl).trans (Bq hc8)) rfl rfl rfl fun _ h85=>su h85 ((wF h85 rfl rfl rfl).trans (Bq hc8)) rfl rfl rfl fun _ h86=>sv1 h86 rfl (BT h86 rfl (E:=(decide (m1=(Ac F x.p1).2))) (b:=true) rfl hc8 rfl) fun _ h87=>?_
         refine h87.sn [85,13,12,9,11,10,8,7,6,5,0,2] rfl fun h88=>hK22 _ _<|wcT h88 rfl rfl<|h88.sk [13,12,9,11,10,8,7,6,5,0,2] rfl fun h89=>sqr fun _ hK23=>bu h89 (v:=.agg zL.toArray) rfl (fun w=>κ) fun _ h90=>mv h90 rfl fun _ h91=>stA h91 s9 3 rfl rfl rfl κ rfl rfl rfl rfl fun _ w10 h92 s10 _=>h92.sk [87,86,13,12,9,11,10,8,6,5,0,2] rfl fun h93=>mv h93 rfl fun _ h94=>?_
         refine h94.sn [7,13,12,9,11,10,8,6,5,0,2] rfl fun h95=>hK23 _ _<|wp_ret ?_
         try simp only [Exit.then,Exit.inBlock]
         refine rCt h95 s10 3 υ37 rfl rfl rfl rfl rfl ?_
         have hq2:Am F x.p1 x.p2=(F,Au 0):=by unfold Am;rw [if_pos (show ((Ag x.p1).isSome=true∧(Ag x.p2).isSome=true)∧¬ x.p1=[47]∧¬ x.p2=[47] from ⟨⟨(AJ hc1).1,(AJ hc2).1⟩,(AJ hc1).2,(AJ hc2).2⟩),if_pos ω,if_neg (show ¬ ((F.dir (Ac F x.p1).2=true∧¬ x.p1=x.p2)∧CX (Ag x.p2) (Ag x.p1)=true) from (fun q=>AH hc5 q.2)),if_pos ω];unfold Bh;rw [hm1];try dsimp only;rw [if_pos (show m1=(Ac F x.p1).2 from (dT hc8))]
         rw [hq2]
         exact ⟨A,none,0,rfl,(Sep.tail_un (xs:=[_,_,_]) (s10.pk [0,1,2,5] rfl)).ownNil 0 9 1,hA.mono⟩
        ·skip
         have hp5:¬ (m1=(Ac F x.p1).2):=(dF hc8)
         rcases bC (F.dir m1) with hc9 | hc9
         ·skip
          rcases bC (decide (0<BH F.E m1)) with hc10 | hc10
          ·skip
           have hp6:0<BH F.E m1:=(dT hc10)
           have hmr302:BI F ((Ac F x.p1).2) m1=14:=by unfold BI;rw [if_neg (dF hc8),if_neg (fun q=>AH q.2 hc9),if_pos ⟨(AA hc4).1,dT hc10⟩]
           refine cl h78 rfl By ((by have z:=Eb (cf:=cf) (F:=F) (A:=A) (n0:=(Ac F x.p1).2) (m0:=m1) s7 hok hz0 ω ω;rw [hmr302] at z;exact z)) fun _ v7 w11 r7 h96=>?_
           obtain ⟨rfl,s11⟩:=r7
           refine mv h96 rfl fun _ h97=>h97.sn [13,12,9,11,10,8,7,6,5,0,2] rfl fun h98=>hK21 _ _<|sqr fun _ hK24=>mvs 2 h98 rfl fun _ h99=>sw1 h99 rfl (GG h99 rfl rfl rfl (NdP.eq (F:=FsM.nE F) (A:=AdM.nC A) (j:=m1) (k:=((Ac F x.p1).2)) (s11.get 1 rfl:NdP _ _ _) (show m1<F.N.length from ω) (show (Ac F x.p1).2<F.N.length from ω) _ _)) fun _ h100=>mv h100 rfl fun _ h101=>sv h101 ((wF h101 rfl rfl rfl).trans (BC hc8)) rfl rfl rfl (Ap h101 rfl rfl) fun _ h102=>sv h102 ((wF h102 rfl rfl rfl).trans (BC hc8)) rfl rfl rfl (BG h102 rfl rfl rfl (cNe _ _ _ _ rfl)) fun _ h103=>sv1 h103 rfl (BT h103 rfl (E:=(decide (m1=(Ac F x.p1).2))) (b:=false) rfl hc8 rfl) fun _ h104=>?_
           refine h104.sn [85,13,12,9,11,10,8,7,6,5,0,2] rfl fun h105=>hK24 _ _<|wcT h105 rfl rfl<|h105.sk [13,12,9,11,10,8,7,6,5,0,2] rfl fun h106=>sqr fun _ hK25=>bu h106 (v:=.agg zL.toArray) rfl (fun w=>κ) fun _ h107=>mv h107 rfl fun _ h108=>stA h108 s11 3 rfl rfl rfl κ rfl rfl rfl rfl fun _ w12 h109 s12 _=>h109.sk [87,86,13,12,9,11,10,8,6,5,0,2] rfl fun h110=>mv h110 rfl fun _ h111=>?_
           refine h111.sn [7,13,12,9,11,10,8,6,5,0,2] rfl fun h112=>hK25 _ _<|wp_ret ?_
           try simp only [Exit.then,Exit.inBlock]
           refine rCt h112 s12 3 υ37 rfl rfl rfl rfl rfl ?_
           have hq3:Am F x.p1 x.p2=(F,Au 14):=by unfold Am;rw [if_pos (show ((Ag x.p1).isSome=true∧(Ag x.p2).isSome=true)∧¬ x.p1=[47]∧¬ x.p2=[47] from ⟨⟨(AJ hc1).1,(AJ hc2).1⟩,(AJ hc1).2,(AJ hc2).2⟩),if_pos ω,if_neg (show ¬ ((F.dir (Ac F x.p1).2=true∧¬ x.p1=x.p2)∧CX (Ag x.p2) (Ag x.p1)=true) from (fun q=>AH hc5 q.2)),if_pos ω];unfold Bh;rw [hm1];try dsimp only;rw [if_neg (show ¬ (m1=(Ac F x.p1).2) from (dF hc8)),if_neg (show ¬ (F.dir (Ac F x.p1).2=true∧F.dir m1=false) from (fun q=>AH q.2 hc9)),if_pos (show F.dir (Ac F x.p1).2=true∧0<BH F.E m1 from ⟨(AA hc4).1,dT hc10⟩)]
           rw [hq3]
           exact ⟨A,none,0,rfl,(Sep.tail_un (xs:=[_,_,_]) (s12.pk [0,1,2,5] rfl)).ownNil 0 9 1,hA.mono⟩
          ·skip
           have hp7:¬ (0<BH F.E m1):=(dF hc10)
           have hmr347:BI F ((Ac F x.p1).2) m1=0:=by unfold BI;rw [if_neg (dF hc8),if_neg (fun q=>AH q.2 hc9),if_neg (fun q=>dF hc10 q.2),if_neg (fun q=>AH q.1 (AA hc4).1)]
           refine cl h78 rfl By ((by have z:=Eb (cf:=cf) (F:=F) (A:=A) (n0:=(Ac F x.p1).2) (m0:=m1) s7 hok hz0 ω ω;rw [hmr347] at z;exact z)) fun _ v8 w13 r8 h113=>?_
           obtain ⟨rfl,s13⟩:=r8
           refine mv h113 rfl fun _ h114=>h114.sn [13,12,9,11,10,8,7,6,5,0,2] rfl fun h115=>hK21 _ _<|sqr fun _ hK26=>mvs 2 h115 rfl fun _ h116=>sw1 h116 rfl (GG h116 rfl rfl rfl (NdP.eq (F:=FsM.nE F) (A:=AdM.nC A) (j:=m1) (k:=((Ac F x.p1).2)) (s13.get 1 rfl:NdP _ _ _) (show m1<F.N.length from ω) (show (Ac F x.p1).2<F.N.length from ω) _ _)) fun _ h117=>mv h117 rfl fun _ h118=>sv h118 ((wF h118 rfl rfl rfl).trans (BC hc8)) rfl rfl rfl (Ap h118 rfl rfl) fun _ h119=>sv h119 ((wF h119 rfl rfl rfl).trans (BC hc8)) rfl rfl rfl (BG h119 rfl rfl rfl (cNe _ _ _ _ rfl)) fun _ h120=>sv1 h120 rfl (BT h120 rfl (E:=(decide (m1=(Ac F x.p1).2))) (b:=false) rfl hc8 rfl) fun _ h121=>?_
           refine h121.sn [85,13,12,9,11,10,8,7,6,5,0,2] rfl fun h122=>hK26 _ _<|wcF h122 rfl rfl<|h122.sk [13,12,9,11,10,8,7,6,5,0,2] rfl fun h123=>wp_skip<|hK20 _ _ ?_
           have hlk375:AR F A m1=1:=JK hA hc9 (.inr ((BL hm1).imp fun x hx=>⟨hx.1,hx.2.2.2⟩))
           refine wp_region_lit<|mvs 2 h123 rfl fun _ h124=>sv1 h124 rfl (v:=.pointer (some ⟨(A.ad m1),1,none⟩)) (rfa h124 rfl rfl (fun w=>Bk (A.ad m1) 0 w)) fun _ h125=>sw1 h125 rfl (v:=ν (AR F A m1)) (rld h125 rfl rfl (NdP.c1 (F:=FsM.nE F) (A:=AdM.nC A) (k:=m1) (s13.get 1 rfl:NdP _ _ _) (show m1<F.N.length from ω) υ3 rfl)) fun _ h126=>bv h126 (z:=ν (AR F A m1-1)) rfl (Ib _ _ _ ω ω ω) fun _ h127=>mv h127 rfl fun _ h128=>sv1 h128 rfl (v:=.pointer (some ⟨(A.ad m1),1,none⟩)) (rfa h128 rfl rfl (fun w=>Bk (A.ad m1) 0 w)) fun _ h129=>so (wn rfl) fun _ hK27=>Ef (F:=F) (A:=A) (F':=F) (A':=(A.lnk m1 (AR F A m1-1))) (k:=m1) (off:=1) h129 rfl rfl s13 1 rfl rfl rfl rfl rfl κ ω (by decide) (Lu hc9) (cs':=[Ah cf 65 [π (A.ad 0),.map (some ob)],Av F (A.lnk m1 (AR F A m1-1)),AM KO ob A.C (opG F A),Ah g1 37 zL,Ah g4 30 (cL x),Ch.many R]) rfl fun _ w14 h130 s14=>hK27 _ _ ?_
           refine h130.sn [13,12,9,11,10,8,7,6,5,0,2] rfl fun h131=>hK17 _ _<|sq fun _ hK28=>?_
           have hpk397:(Aa F x.p1).1=0∧Ai F.E (Aa F x.p1).2.1 (Aa F x.p1).2.2=some (Ac F x.p1).2:=Be ω (Gk hc1)
           have hpk397p:=hpk397.1
           have hpd398:=FsC.place (F:=F) (X:=x.p1) hok hpk397.1
           refine wp_region_lit<|mv h131 rfl fun _ h132=>fav h132 rfl (An _ _) fun _ h133=>ldv h133 s14 4 υ9 rfl rfl rfl rfl fun _ h134=>cl h134 rfl Cl (FC (cf:=cf) (F:=F) (A:=(A.lnk m1 (AR F A m1-1))) s14 hok hz0 ω hpk397.1) fun _ v9 w15 r9 h135=>?_
           obtain ⟨rfl,s15⟩:=r9
           have hN412:(Aq F (Aa F x.p1).2.1 (Aa F x.p1).2.2).N.length=F.N.length:=rfl
           refine h135.sk [98,97,96,95,13,12,11,10,8,7,6,5,0,2] rfl fun h136=>mv h136 rfl fun _ h137=>h137.sn [9,13,12,11,10,8,7,6,5,0,2] rfl fun h138=>hK28 _ _<|sq fun _ hK29=>?_
           have hro418:RenOk F ((Ac F x.p1).2) m1:=⟨dF hc8,(fun q=>AH q.2 hc9),(fun q=>dF hc10 q.2),(fun q=>AH q.1 (AA hc4).1)⟩
           refine wp_region_lit<|mvs 2 h138 rfl fun _ h139=>sv1 h139 rfl (rfa h139 rfl rfl (fun w=>AF (A.ad (Aa F x.p2).2.1) 0 w)) fun _ h140=>sw1 h140 rfl (rld h140 rfl rfl (NdP.c3 (F:=FsM.nE (Aq F (Aa F x.p1).2.1 (Aa F x.p1).2.2)) (A:=AdM.nC (A.lnk m1 (AR F A m1-1))) (k:=((Aa F x.p2).2.1)) (s15.get 1 rfl:NdP _ _ _) (show (Aa F x.p2).2.1<(Aq F (Aa F x.p1).2.1 (Aa F x.p1).2.2).N.length from ω) hpl184.1.2 υ95 rfl)) fun _ h141=>mvs 2 h141 rfl fun _ h142=>so (wn rfl) fun _ hK30=>FU (F:=(Aq F (Aa F x.p1).2.1 (Aa F x.p1).2.2)) (A:=(A.lnk m1 (AR F A m1-1))) (F':=(movedF (Af F (Aa F x.p2).2.1 (Aa F x.p2).2.2 m1) x.p1 (Aa F x.p2).2.1 (Aa F x.p2).2.2 (Ac F x.p1).2)) (k:=((Aa F x.p2).2.1)) (m:=((Ac F x.p1).2)) h142 rfl rfl rfl s15 1 rfl rfl rfl rfl ω hpl184.1.2 (CO hpl184.2) (by exact (show A.B<maxLen from Gt hA hn)) (LA hc9) (KB hok hpk397.1 hpk397.2 hm1 hro418) (cs':=[Ah cf 65 [π (A.ad 0),.map (some ob)],Av (movedF (Af F (Aa F x.p2).2.1 (Aa F x.p2).2.2 m1) x.p1 (Aa F x.p2).2.1 (Aa F x.p2).2.2 (Ac F x.p1).2) ((A.lnk m1 (AR F A m1-1)).inc),AM KO ob A.C (opG F A),Ah g1 37 zL,Ah g4 30 (cL x),Ch.many R]) rfl fun _ w16 h143 s16=>hK30 _ _ ?_
           refine h143.sn [9,13,12,11,10,8,7,6,5,0,2] rfl fun h144=>hK29 _ _<|sqr fun _ hK31=>bu h144 (v:=.agg zL.toArray) rfl (fun w=>κ) fun _ h145=>mv h145 rfl fun _ h146=>stA h146 s16 3 rfl rfl rfl κ rfl rfl rfl rfl fun _ w17 h147 s17 _=>h147.sk [106,105,9,13,12,11,10,8,6,5,0,2] rfl fun h148=>mv h148 rfl fun _ h149=>h149.sn [7,9,13,12,11,10,8,6,5,0,2] rfl fun h150=>hK31 _ _ ?_
           refine wp_ret ?_
           try simp only [Exit.then,Exit.inBlock]
           refine rCt h150 s17 3 υ37 rfl rfl rfl rfl rfl ?_
           have s18:Sep w17 [Ah cf 65 [π (A.ad 0),.map (some ob)],Av (movedF (Af F (Aa F x.p2).2.1 (Aa F x.p2).2.2 m1) x.p1 (Aa F x.p2).2.1 (Aa F x.p2).2.2 (Ac F x.p1).2) ((A.lnk m1 (AR F A m1-1)).inc),AM KO ob A.C (opG (movedF (Af F (Aa F x.p2).2.1 (Aa F x.p2).2.2 m1) x.p1 (Aa F x.p2).2.1 (Aa F x.p2).2.2 (Ac F x.p1).2) A),Ah g1 37 zL,Ah g4 30 (cL x),Ch.many R]:=by rw [Ji];exact s17
           have hq4:Am F x.p1 x.p2=(movedF (Af F (Aa F x.p2).2.1 (Aa F x.p2).2.2 m1) x.p1 (Aa F x.p2).2.1 (Aa F x.p2).2.2 (Ac F x.p1).2,Au 0):=by unfold Am;rw [if_pos (show ((Ag x.p1).isSome=true∧(Ag x.p2).isSome=true)∧¬ x.p1=[47]∧¬ x.p2=[47] from ⟨⟨(AJ hc1).1,(AJ hc2).1⟩,(AJ hc1).2,(AJ hc2).2⟩),if_pos ω,if_neg (show ¬ ((F.dir (Ac F x.p1).2=true∧¬ x.p1=x.p2)∧CX (Ag x.p2) (Ag x.p1)=true) from (fun q=>AH hc5 q.2)),if_pos ω];unfold Bh;rw [hm1];try dsimp only;rw [if_neg (show ¬ (m1=(Ac F x.p1).2) from (dF hc8)),if_neg (show ¬ (F.dir (Ac F x.p1).2=true∧F.dir m1=false) from (fun q=>AH q.2 hc9)),if_neg (show ¬ (F.dir (Ac F x.p1).2=true∧0<BH F.E m1) from (fun q=>dF hc10 q.2)),if_neg (show ¬ (F.dir (Ac F x.p1).2=false∧F.dir m1=true) from (fun q=>AH q.1 (AA hc4).1))]
           rw [hq4]
           exact ⟨(A.lnk m1 (AR F A m1-1)).inc,none,0,rfl,(Sep.tail_un (xs:=[_,_,_]) (s18.pk [0,1,2,5] rfl)).ownNil 0 9 1,hA.movedD hok hpk397.1 hpk397.2 hm1 hro418 hc9 _⟩
         ·skip
          have hmr455:BI F ((Ac F x.p1).2) m1=12:=by unfold BI;rw [if_neg (dF hc8),if_pos ⟨(AA hc4).1,hc9⟩]
          refine cl h78 rfl By ((by have z:=Eb (cf:=cf) (F:=F) (A:=A) (n0:=(Ac F x.p1).2) (m0:=m1) s7 hok hz0 ω ω;rw [hmr455] at z;exact z)) fun _ v10 w18 r10 h151=>?_
          obtain ⟨rfl,s19⟩:=r10
          refine mv h151 rfl fun _ h152=>h152.sn [13,12,9,11,10,8,7,6,5,0,2] rfl fun h153=>hK21 _ _<|sqr fun _ hK32=>mvs 2 h153 rfl fun _ h154=>sw1 h154 rfl (GG h154 rfl rfl rfl (NdP.eq (F:=FsM.nE F) (A:=AdM.nC A) (j:=m1) (k:=((Ac F x.p1).2)) (s19.get 1 rfl:NdP _ _ _) (show m1<F.N.length from ω) (show (Ac F x.p1).2<F.N.length from ω) _ _)) fun _ h155=>mv h155 rfl fun _ h156=>sv h156 ((wF h156 rfl rfl rfl).trans (BC hc8)) rfl rfl rfl (Ap h156 rfl rfl) fun _ h157=>sv h157 ((wF h157 rfl rfl rfl).trans (BC hc8)) rfl rfl rfl (BG h157 rfl rfl rfl (cNe _ _ _ _ rfl)) fun _ h158=>sv1 h158 rfl (BT h158 rfl (E:=(decide (m1=(Ac F x.p1).2))) (b:=false) rfl hc8 rfl) fun _ h159=>?_
          refine h159.sn [85,13,12,9,11,10,8,7,6,5,0,2] rfl fun h160=>hK32 _ _<|wcT h160 rfl rfl<|h160.sk [13,12,9,11,10,8,7,6,5,0,2] rfl fun h161=>sqr fun _ hK33=>bu h161 (v:=.agg zL.toArray) rfl (fun w=>κ) fun _ h162=>mv h162 rfl fun _ h163=>stA h163 s19 3 rfl rfl rfl κ rfl rfl rfl rfl fun _ w19 h164 s20 _=>h164.sk [87,86,13,12,9,11,10,8,6,5,0,2] rfl fun h165=>mv h165 rfl fun _ h166=>?_
          refine h166.sn [7,13,12,9,11,10,8,6,5,0,2] rfl fun h167=>hK33 _ _<|wp_ret ?_
          try simp only [Exit.then,Exit.inBlock]
          refine rCt h167 s20 3 υ37 rfl rfl rfl rfl rfl ?_
          have hq5:Am F x.p1 x.p2=(F,Au 12):=by unfold Am;rw [if_pos (show ((Ag x.p1).isSome=true∧(Ag x.p2).isSome=true)∧¬ x.p1=[47]∧¬ x.p2=[47] from ⟨⟨(AJ hc1).1,(AJ hc2).1⟩,(AJ hc1).2,(AJ hc2).2⟩),if_pos ω,if_neg (show ¬ ((F.dir (Ac F x.p1).2=true∧¬ x.p1=x.p2)∧CX (Ag x.p2) (Ag x.p1)=true) from (fun q=>AH hc5 q.2)),if_pos ω];unfold Bh;rw [hm1];try dsimp only;rw [if_neg (show ¬ (m1=(Ac F x.p1).2) from (dF hc8)),if_pos (show F.dir (Ac F x.p1).2=true∧F.dir m1=false from ⟨(AA hc4).1,hc9⟩)]
          rw [hq5]
          exact ⟨A,none,0,rfl,(Sep.tail_un (xs:=[_,_,_]) (s20.pk [0,1,2,5] rfl)).ownNil 0 9 1,hA.mono⟩
       ·skip
        have hm2:=AI hc7
        refine sw1 h70 rfl (Ds h70 rfl rfl rfl (NdP.lookN (F:=FsM.nE F) (A:=AdM.nC A) (k:=((Aa F x.p2).2.1)) (s7.get 1 rfl:NdP _ _ _) (show (Aa F x.p2).2.1<F.N.length from ω) hpl184.1.2 (CO hpl184.2) hm2)) fun _ h168=>mv h168 rfl fun _ h169=>h169.sn [12,9,11,10,8,7,6,5,0,2] rfl fun h170=>hK18 _ _<|sqr fun _ hK34=>mv h170 rfl fun _ h171=>bv h171 rfl (Iz _ υ62 _ _ _) fun _ h172=>h172.sn [75,12,9,11,10,8,7,6,5,0,2] rfl fun h173=>hK34 _ _<|wcF h173 rfl rfl ?_
        refine h173.sk [12,9,11,10,8,7,6,5,0,2] rfl fun h174=>wp_skip<|hK17 _ _<|sq fun _ hK35=>?_
        have hpk514:(Aa F x.p1).1=0∧Ai F.E (Aa F x.p1).2.1 (Aa F x.p1).2.2=some (Ac F x.p1).2:=Be ω (Gk hc1)
        have hpk514p:=hpk514.1
        have hpd515:=FsC.place (F:=F) (X:=x.p1) hok hpk514.1
        refine wp_region_lit<|mv h174 rfl fun _ h175=>fav h175 rfl (An _ _) fun _ h176=>ldv h176 s7 4 υ9 rfl rfl rfl rfl fun _ h177=>cl h177 rfl Cl (FC (cf:=cf) (F:=F) (A:=A) s7 hok hz0 ω hpk514.1) fun _ v11 w20 r11 h178=>?_
        obtain ⟨rfl,s21⟩:=r11
        have hN529:(Aq F (Aa F x.p1).2.1 (Aa F x.p1).2.2).N.length=F.N.length:=rfl
        refine h178.sk [98,97,96,95,12,11,10,8,7,6,5,0,2] rfl fun h179=>mv h179 rfl fun _ h180=>h180.sn [9,12,11,10,8,7,6,5,0,2] rfl fun h181=>hK35 _ _<|sqr fun _ hK36=>mvs 2 h181 rfl fun _ h182=>sv1 h182 rfl (rfa h182 rfl rfl (fun w=>AF (A.ad (Aa F x.p2).2.1) 0 w)) fun _ h183=>sw1 h183 rfl (rld h183 rfl rfl (NdP.c3 (F:=FsM.nE (Aq F (Aa F x.p1).2.1 (Aa F x.p1).2.2)) (A:=AdM.nC A) (k:=((Aa F x.p2).2.1)) (s21.get 1 rfl:NdP _ _ _) (show (Aa F x.p2).2.1<(Aq F (Aa F x.p1).2.1 (Aa F x.p1).2.2).N.length from ω) hpl184.1.2 υ95 rfl)) fun _ h184=>mvs 2 h184 rfl fun _ h185=>so (wn rfl) fun _ hK37=>FU (F:=(Aq F (Aa F x.p1).2.1 (Aa F x.p1).2.2)) (A:=A) (F':=(movedF F x.p1 (Aa F x.p2).2.1 (Aa F x.p2).2.2 (Ac F x.p1).2)) (k:=((Aa F x.p2).2.1)) (m:=((Ac F x.p1).2)) h185 rfl rfl rfl s21 1 rfl rfl rfl rfl ω hpl184.1.2 (CO hpl184.2) (by exact (show A.B<maxLen from Gt hA hn)) rfl (Lz hm2) (cs':=[Ah cf 65 [π (A.ad 0),.map (some ob)],Av (movedF F x.p1 (Aa F x.p2).2.1 (Aa F x.p2).2.2 (Ac F x.p1).2) A.inc,AM KO ob A.C (opG F A),Ah g1 37 zL,Ah g4 30 (cL x),Ch.many R]) rfl fun _ w21 h186 s22=>hK37 _ _ ?_
        refine h186.sn [9,12,11,10,8,7,6,5,0,2] rfl fun h187=>hK36 _ _<|sqr fun _ hK38=>bu h187 (v:=.agg zL.toArray) rfl (fun w=>κ) fun _ h188=>mv h188 rfl fun _ h189=>stA h189 s22 3 rfl rfl rfl κ rfl rfl rfl rfl fun _ w22 h190 s23 _=>h190.sk [106,105,9,12,11,10,8,6,5,0,2] rfl fun h191=>mv h191 rfl fun _ h192=>h192.sn [7,9,12,11,10,8,6,5,0,2] rfl fun h193=>hK38 _ _ ?_
        refine wp_ret ?_
        try simp only [Exit.then,Exit.inBlock]
        refine rCt h193 s23 3 υ37 rfl rfl rfl rfl rfl ?_
        have hq6:Am F x.p1 x.p2=(movedF F x.p1 (Aa F x.p2).2.1 (Aa F x.p2).2.2 (Ac F x.p1).2,Au 0):=by unfold Am;rw [if_pos (show ((Ag x.p1).isSome=true∧(Ag x.p2).isSome=true)∧¬ x.p1=[47]∧¬ x.p2=[47] from ⟨⟨(AJ hc1).1,(AJ hc2).1⟩,(AJ hc1).2,(AJ hc2).2⟩),if_pos ω,if_neg (show ¬ ((F.dir (Ac F x.p1).2=true∧¬ x.p1=x.p2)∧CX (Ag x.p2) (Ag x.p1)=true) from (fun q=>AH hc5 q.2)),if_pos ω];unfold Bh;rw [hm2];try dsimp only
        rw [hq6]
        exact ⟨A.inc,none,0,rfl,(Sep.tail_un (xs:=[_,_,_]) (s23.pk [0,1,2,5] rfl)).ownNil 0 9 1,hA.moved hpk514.2⟩
      ·skip
       have hp8:¬ ((Aa F x.p2).1=0):=(dF hc6)
       refine cl h57 rfl BD (Gl (cf:=cf) (A:=A) (F:=F) s5 hok hz0 ω ω) fun _ v12 w23 r12 h194=>?_
       obtain ⟨rfl,s24⟩:=r12
       refine mvs 6 h194 rfl fun _ h195=>h195.sk [11,10,63,62,61,56,60,59,58,57,8,7,6,5,0,2] rfl fun h196=>mv h196 rfl fun _ h197=>h197.sn [9,11,10,8,7,6,5,0,2] rfl fun h198=>hK14 _ _<|sq fun _ hK39=>sqr fun _ hK40=>mv h198 rfl fun _ h199=>bv h199 rfl (cNe _ _ _ _ (decide_eq_true ω)) fun _ h200=>h200.sn [65,9,11,10,8,7,6,5,0,2] rfl fun h201=>hK40 _ _ ?_
       refine wcT h201 rfl rfl<|h201.sk [9,11,10,8,7,6,5,0,2] rfl fun h202=>sqr fun _ hK41=>bu h202 (v:=.agg zL.toArray) rfl (fun w=>κ) fun _ h203=>mv h203 rfl fun _ h204=>stA h204 s24 3 rfl rfl rfl κ rfl rfl rfl rfl fun _ w24 h205 s25 _=>h205.sk [67,66,9,11,10,8,6,5,0,2] rfl fun h206=>mv h206 rfl fun _ h207=>h207.sn [7,9,11,10,8,6,5,0,2] rfl fun h208=>hK41 _ _ ?_
       refine wp_ret ?_
       try simp only [Exit.then,Exit.inBlock]
       refine rCt h208 s25 3 υ37 rfl rfl rfl rfl rfl ?_
       have hq7:Am F x.p1 x.p2=(F,Au (Aa F x.p2).1):=by unfold Am;rw [if_pos (show ((Ag x.p1).isSome=true∧(Ag x.p2).isSome=true)∧¬ x.p1=[47]∧¬ x.p2=[47] from ⟨⟨(AJ hc1).1,(AJ hc2).1⟩,(AJ hc1).2,(AJ hc2).2⟩),if_pos ω,if_neg (show ¬ ((F.dir (Ac F x.p1).2=true∧¬ x.p1=x.p2)∧CX (Ag x.p2) (Ag x.p1)=true) from (fun q=>AH hc5 q.2)),if_neg ω]
       rw [hq7]
       exact ⟨A,none,0,rfl,(Sep.tail_un (xs:=[_,_,_]) (s25.pk [0,1,2,5] rfl)).ownNil 0 9 1,hA.mono⟩
    ·skip
     have hp9:((F.dir ((Ac F x.p1).2))=false)∨(¬ (x.p2≠x.p1)):=((Ix hc4).imp (fun q=>q) (fun q=>(dF q)))
     refine su h44 ((wT h44 rfl rfl rfl).trans hc4) rfl rfl rfl fun _ h209=>sv1 h209 rfl (BT h209 rfl (E:=((F.dir ((Ac F x.p1).2))&&(decide (x.p2≠x.p1)))) (b:=false) rfl hc4 rfl) fun _ h210=>h210.sn [54,9,8,7,6,5,0,2] rfl fun h211=>hK11 _ _<|wcF h211 rfl rfl<|h211.sk [9,8,7,6,5,0,2] rfl fun h212=>wp_skip<|hK10 _ _<|sqr fun _ hK42=>mv h212 rfl fun _ h213=>fav h213 rfl (AS _ _) fun _ h214=>?_
     refine ldv h214 s4 4 υ9 rfl rfl rfl rfl fun _ h215=>?_
     rcases bC (decide ((Aa F x.p2).1=0)) with hc11 | hc11
     ·skip
      have hp10:(Aa F x.p2).1=0:=(dT hc11)
      have hpl633:=FsC.place (F:=F) (X:=x.p2) hok ω
      have hpl633a:=hpl633.1.1
      refine cl h215 rfl BD (EP (cf:=cf) (A:=A) (F:=F) s4 hok hz0 ω ω) fun _ v13 w25 r13 h216=>?_
      obtain ⟨rfl,s26⟩:=r13
      refine mvs 6 h216 rfl fun _ h217=>h217.sk [11,10,63,62,61,56,60,59,58,57,8,7,6,5,0,2] rfl fun h218=>mv h218 rfl fun _ h219=>h219.sn [9,11,10,8,7,6,5,0,2] rfl fun h220=>hK42 _ _<|sq fun _ hK43=>sqr fun _ hK44=>mv h220 rfl fun _ h221=>bv h221 rfl (cNe _ _ _ _ rfl) fun _ h222=>h222.sn [65,9,11,10,8,7,6,5,0,2] rfl fun h223=>hK44 _ _ ?_
      refine wcF h223 rfl rfl<|h223.sk [9,11,10,8,7,6,5,0,2] rfl fun h224=>wp_skip<|hK43 _ _<|sq fun _ hK45=>sqr fun _ hK46=>mvs 2 h224 rfl fun _ h225=>sv1 h225 rfl (rfa h225 rfl rfl (fun w=>AF (A.ad (Aa F x.p2).2.1) 0 w)) fun _ h226=>sw1 h226 rfl (rld h226 rfl rfl (NdP.c3 (F:=FsM.nE F) (A:=AdM.nC A) (k:=((Aa F x.p2).2.1)) (s26.get 1 rfl:NdP _ _ _) (show (Aa F x.p2).2.1<F.N.length from ω) hpl633.1.2 υ95 rfl)) fun _ h227=>mv h227 rfl fun _ h228=>?_
      rcases bC ((Ai F.E ((Aa F x.p2).2.1) ((Aa F x.p2).2.2)).isSome) with hc12 | hc12
      ·skip
       obtain ⟨m2,hm3⟩:=Option.isSome_iff_exists.1 hc12;have hml681:=FsC.look_lt hok hm3
       refine sw1 h228 rfl (Ds h228 rfl rfl rfl (NdP.lookY (F:=FsM.nE F) (A:=AdM.nC A) (k:=((Aa F x.p2).2.1)) (s26.get 1 rfl:NdP _ _ _) (show (Aa F x.p2).2.1<F.N.length from ω) hpl633.1.2 (CO hpl633.2) hm3)) fun _ h229=>mv h229 rfl fun _ h230=>h230.sn [12,9,11,10,8,7,6,5,0,2] rfl fun h231=>hK46 _ _<|sqr fun _ hK47=>mv h231 rfl fun _ h232=>bv h232 rfl (Iz _ υ62 _ _ _) fun _ h233=>h233.sn [75,12,9,11,10,8,7,6,5,0,2] rfl fun h234=>hK47 _ _<|wcT h234 rfl rfl ?_
       refine h234.sk [12,9,11,10,8,7,6,5,0,2] rfl fun h235=>sq fun _ hK48=>sqr fun _ hK49=>mvs 2 h235 rfl fun _ h236=>?_
       rcases bC (decide (m2=(Ac F x.p1).2)) with hc13 | hc13
       ·skip
        have hp11:m2=(Ac F x.p1).2:=(dT hc13)
        have hmr702:BI F ((Ac F x.p1).2) m2=0:=by unfold BI;rw [if_pos (dT hc13)]
        refine cl h236 rfl By ((by have z:=Eb (cf:=cf) (F:=F) (A:=A) (n0:=(Ac F x.p1).2) (m0:=m2) s26 hok hz0 ω ω;rw [hmr702] at z;exact z)) fun _ v14 w26 r14 h237=>?_
        obtain ⟨rfl,s27⟩:=r14
        refine mv h237 rfl fun _ h238=>h238.sn [13,12,9,11,10,8,7,6,5,0,2] rfl fun h239=>hK49 _ _<|sqr fun _ hK50=>mvs 2 h239 rfl fun _ h240=>sw1 h240 rfl (GG h240 rfl rfl rfl (NdP.eq (F:=FsM.nE F) (A:=AdM.nC A) (j:=m2) (k:=((Ac F x.p1).2)) (s27.get 1 rfl:NdP _ _ _) (show m2<F.N.length from ω) (show (Ac F x.p1).2<F.N.length from ω) _ _)) fun _ h241=>mv h241 rfl fun _ h242=>su h242 ((wF h242 rfl rfl rfl).trans (Bq hc13)) rfl rfl rfl fun _ h243=>su h243 ((wF h243 rfl rfl rfl).trans (Bq hc13)) rfl rfl rfl fun _ h244=>sv1 h244 rfl (BT h244 rfl (E:=(decide (m2=(Ac F x.p1).2))) (b:=true) rfl hc13 rfl) fun _ h245=>?_
        refine h245.sn [85,13,12,9,11,10,8,7,6,5,0,2] rfl fun h246=>hK50 _ _<|wcT h246 rfl rfl<|h246.sk [13,12,9,11,10,8,7,6,5,0,2] rfl fun h247=>sqr fun _ hK51=>bu h247 (v:=.agg zL.toArray) rfl (fun w=>κ) fun _ h248=>mv h248 rfl fun _ h249=>stA h249 s27 3 rfl rfl rfl κ rfl rfl rfl rfl fun _ w27 h250 s28 _=>h250.sk [87,86,13,12,9,11,10,8,6,5,0,2] rfl fun h251=>mv h251 rfl fun _ h252=>?_
        refine h252.sn [7,13,12,9,11,10,8,6,5,0,2] rfl fun h253=>hK51 _ _<|wp_ret ?_
        try simp only [Exit.then,Exit.inBlock]
        refine rCt h253 s28 3 υ37 rfl rfl rfl rfl rfl ?_
        have hq8:Am F x.p1 x.p2=(F,Au 0):=by unfold Am;rw [if_pos (show ((Ag x.p1).isSome=true∧(Ag x.p2).isSome=true)∧¬ x.p1=[47]∧¬ x.p2=[47] from ⟨⟨(AJ hc1).1,(AJ hc2).1⟩,(AJ hc1).2,(AJ hc2).2⟩),if_pos ω,if_neg (show ¬ ((F.dir (Ac F x.p1).2=true∧¬ x.p1=x.p2)∧CX (Ag x.p2) (Ag x.p1)=true) from (fun q=>hp9.elim (fun z=>AH z q.1.1) (fun z=>z (fun w=>q.1.2 w.symm)))),if_pos ω];unfold Bh;rw [hm3];try dsimp only;rw [if_pos (show m2=(Ac F x.p1).2 from (dT hc13))]
        rw [hq8]
        exact ⟨A,none,0,rfl,(Sep.tail_un (xs:=[_,_,_]) (s28.pk [0,1,2,5] rfl)).ownNil 0 9 1,hA.mono⟩
       ·skip
        have hp12:¬ (m2=(Ac F x.p1).2):=(dF hc13)
        rcases bC (F.dir ((Ac F x.p1).2)) with hc14 | hc14
        ·skip
         rcases bC (F.dir m2) with hc15 | hc15
         ·skip
          rcases bC (decide (0<BH F.E m2)) with hc16 | hc16
          ·skip
           have hp13:0<BH F.E m2:=(dT hc16)
           have hmr753:BI F ((Ac F x.p1).2) m2=14:=by unfold BI;rw [if_neg (dF hc13),if_neg (fun q=>AH q.2 hc15),if_pos ⟨hc14,dT hc16⟩]
           refine cl h236 rfl By ((by have z:=Eb (cf:=cf) (F:=F) (A:=A) (n0:=(Ac F x.p1).2) (m0:=m2) s26 hok hz0 ω ω;rw [hmr753] at z;exact z)) fun _ v15 w28 r15 h254=>?_
           obtain ⟨rfl,s29⟩:=r15
           refine mv h254 rfl fun _ h255=>h255.sn [13,12,9,11,10,8,7,6,5,0,2] rfl fun h256=>hK49 _ _<|sqr fun _ hK52=>mvs 2 h256 rfl fun _ h257=>sw1 h257 rfl (GG h257 rfl rfl rfl (NdP.eq (F:=FsM.nE F) (A:=AdM.nC A) (j:=m2) (k:=((Ac F x.p1).2)) (s29.get 1 rfl:NdP _ _ _) (show m2<F.N.length from ω) (show (Ac F x.p1).2<F.N.length from ω) _ _)) fun _ h258=>mv h258 rfl fun _ h259=>sv h259 ((wF h259 rfl rfl rfl).trans (BC hc13)) rfl rfl rfl (Ap h259 rfl rfl) fun _ h260=>sv h260 ((wF h260 rfl rfl rfl).trans (BC hc13)) rfl rfl rfl (BG h260 rfl rfl rfl (cNe _ _ _ _ rfl)) fun _ h261=>sv1 h261 rfl (BT h261 rfl (E:=(decide (m2=(Ac F x.p1).2))) (b:=false) rfl hc13 rfl) fun _ h262=>?_
           refine h262.sn [85,13,12,9,11,10,8,7,6,5,0,2] rfl fun h263=>hK52 _ _<|wcT h263 rfl rfl<|h263.sk [13,12,9,11,10,8,7,6,5,0,2] rfl fun h264=>sqr fun _ hK53=>bu h264 (v:=.agg zL.toArray) rfl (fun w=>κ) fun _ h265=>mv h265 rfl fun _ h266=>stA h266 s29 3 rfl rfl rfl κ rfl rfl rfl rfl fun _ w29 h267 s30 _=>h267.sk [87,86,13,12,9,11,10,8,6,5,0,2] rfl fun h268=>mv h268 rfl fun _ h269=>?_
           refine h269.sn [7,13,12,9,11,10,8,6,5,0,2] rfl fun h270=>hK53 _ _<|wp_ret ?_
           try simp only [Exit.then,Exit.inBlock]
           refine rCt h270 s30 3 υ37 rfl rfl rfl rfl rfl ?_
           have hq9:Am F x.p1 x.p2=(F,Au 14):=by unfold Am;rw [if_pos (show ((Ag x.p1).isSome=true∧(Ag x.p2).isSome=true)∧¬ x.p1=[47]∧¬ x.p2=[47] from ⟨⟨(AJ hc1).1,(AJ hc2).1⟩,(AJ hc1).2,(AJ hc2).2⟩),if_pos ω,if_neg (show ¬ ((F.dir (Ac F x.p1).2=true∧¬ x.p1=x.p2)∧CX (Ag x.p2) (Ag x.p1)=true) from (fun q=>hp9.elim (fun z=>AH z q.1.1) (fun z=>z (fun w=>q.1.2 w.symm)))),if_pos ω];unfold Bh;rw [hm3];try dsimp only;rw [if_neg (show ¬ (m2=(Ac F x.p1).2) from (dF hc13)),if_neg (show ¬ (F.dir (Ac F x.p1).2=true∧F.dir m2=false) from (fun q=>AH q.2 hc15)),if_pos (show F.dir (Ac F x.p1).2=true∧0<BH F.E m2 from ⟨hc14,dT hc16⟩)]
           rw [hq9]
           exact ⟨A,none,0,rfl,(Sep.tail_un (xs:=[_,_,_]) (s30.pk [0,1,2,5] rfl)).ownNil 0 9 1,hA.mono⟩
          ·skip
           have hp14:¬ (0<BH F.E m2):=(dF hc16)
           have hmr798:BI F ((Ac F x.p1).2) m2=0:=by unfold BI;rw [if_neg (dF hc13),if_neg (fun q=>AH q.2 hc15),if_neg (fun q=>dF hc16 q.2),if_neg (fun q=>AH q.1 hc14)]
           refine cl h236 rfl By ((by have z:=Eb (cf:=cf) (F:=F) (A:=A) (n0:=(Ac F x.p1).2) (m0:=m2) s26 hok hz0 ω ω;rw [hmr798] at z;exact z)) fun _ v16 w30 r16 h271=>?_
           obtain ⟨rfl,s31⟩:=r16
           refine mv h271 rfl fun _ h272=>h272.sn [13,12,9,11,10,8,7,6,5,0,2] rfl fun h273=>hK49 _ _<|sqr fun _ hK54=>mvs 2 h273 rfl fun _ h274=>sw1 h274 rfl (GG h274 rfl rfl rfl (NdP.eq (F:=FsM.nE F) (A:=AdM.nC A) (j:=m2) (k:=((Ac F x.p1).2)) (s31.get 1 rfl:NdP _ _ _) (show m2<F.N.length from ω) (show (Ac F x.p1).2<F.N.length from ω) _ _)) fun _ h275=>mv h275 rfl fun _ h276=>sv h276 ((wF h276 rfl rfl rfl).trans (BC hc13)) rfl rfl rfl (Ap h276 rfl rfl) fun _ h277=>sv h277 ((wF h277 rfl rfl rfl).trans (BC hc13)) rfl rfl rfl (BG h277 rfl rfl rfl (cNe _ _ _ _ rfl)) fun _ h278=>sv1 h278 rfl (BT h278 rfl (E:=(decide (m2=(Ac F x.p1).2))) (b:=false) rfl hc13 rfl) fun _ h279=>?_
           refine h279.sn [85,13,12,9,11,10,8,7,6,5,0,2] rfl fun h280=>hK54 _ _<|wcF h280 rfl rfl<|h280.sk [13,12,9,11,10,8,7,6,5,0,2] rfl fun h281=>wp_skip<|hK48 _ _ ?_
           have hlk826:AR F A m2=1:=JK hA hc15 (.inr ((BL hm3).imp fun x hx=>⟨hx.1,hx.2.2.2⟩))
           refine wp_region_lit<|mvs 2 h281 rfl fun _ h282=>sv1 h282 rfl (v:=.pointer (some ⟨(A.ad m2),1,none⟩)) (rfa h282 rfl rfl (fun w=>Bk (A.ad m2) 0 w)) fun _ h283=>sw1 h283 rfl (v:=ν (AR F A m2)) (rld h283 rfl rfl (NdP.c1 (F:=FsM.nE F) (A:=AdM.nC A) (k:=m2) (s31.get 1 rfl:NdP _ _ _) (show m2<F.N.length from ω) υ3 rfl)) fun _ h284=>bv h284 (z:=ν (AR F A m2-1)) rfl (Ib _ _ _ ω ω ω) fun _ h285=>mv h285 rfl fun _ h286=>sv1 h286 rfl (v:=.pointer (some ⟨(A.ad m2),1,none⟩)) (rfa h286 rfl rfl (fun w=>Bk (A.ad m2) 0 w)) fun _ h287=>so (wn rfl) fun _ hK55=>Ef (F:=F) (A:=A) (F':=F) (A':=(A.lnk m2 (AR F A m2-1))) (k:=m2) (off:=1) h287 rfl rfl s31 1 rfl rfl rfl rfl rfl κ ω (by decide) (Lu hc15) (cs':=[Ah cf 65 [π (A.ad 0),.map (some ob)],Av F (A.lnk m2 (AR F A m2-1)),AM KO ob A.C (opG F A),Ah g1 37 zL,Ah g4 30 (cL x),Ch.many R]) rfl fun _ w31 h288 s32=>hK55 _ _ ?_
           refine h288.sn [13,12,9,11,10,8,7,6,5,0,2] rfl fun h289=>hK45 _ _<|sq fun _ hK56=>?_
           have hpk848:(Aa F x.p1).1=0∧Ai F.E (Aa F x.p1).2.1 (Aa F x.p1).2.2=some (Ac F x.p1).2:=Be ω (Gk hc1)
           have hpk848p:=hpk848.1
           have hpd849:=FsC.place (F:=F) (X:=x.p1) hok hpk848.1
           refine wp_region_lit<|mv h289 rfl fun _ h290=>fav h290 rfl (An _ _) fun _ h291=>ldv h291 s32 4 υ9 rfl rfl rfl rfl fun _ h292=>cl h292 rfl Cl (FC (cf:=cf) (F:=F) (A:=(A.lnk m2 (AR F A m2-1))) s32 hok hz0 ω hpk848.1) fun _ v17 w32 r17 h293=>?_
           obtain ⟨rfl,s33⟩:=r17
           have hN863:(Aq F (Aa F x.p1).2.1 (Aa F x.p1).2.2).N.length=F.N.length:=rfl
           refine h293.sk [98,97,96,95,13,12,11,10,8,7,6,5,0,2] rfl fun h294=>mv h294 rfl fun _ h295=>h295.sn [9,13,12,11,10,8,7,6,5,0,2] rfl fun h296=>hK56 _ _<|sq fun _ hK57=>?_
           have hro869:RenOk F ((Ac F x.p1).2) m2:=⟨dF hc13,(fun q=>AH q.2 hc15),(fun q=>dF hc16 q.2),(fun q=>AH q.1 hc14)⟩
           refine wp_region_lit<|mvs 2 h296 rfl fun _ h297=>sv1 h297 rfl (rfa h297 rfl rfl (fun w=>AF (A.ad (Aa F x.p2).2.1) 0 w)) fun _ h298=>sw1 h298 rfl (rld h298 rfl rfl (NdP.c3 (F:=FsM.nE (Aq F (Aa F x.p1).2.1 (Aa F x.p1).2.2)) (A:=AdM.nC (A.lnk m2 (AR F A m2-1))) (k:=((Aa F x.p2).2.1)) (s33.get 1 rfl:NdP _ _ _) (show (Aa F x.p2).2.1<(Aq F (Aa F x.p1).2.1 (Aa F x.p1).2.2).N.length from ω) hpl633.1.2 υ95 rfl)) fun _ h299=>mvs 2 h299 rfl fun _ h300=>so (wn rfl) fun _ hK58=>FU (F:=(Aq F (Aa F x.p1).2.1 (Aa F x.p1).2.2)) (A:=(A.lnk m2 (AR F A m2-1))) (F':=(movedF (Af F (Aa F x.p2).2.1 (Aa F x.p2).2.2 m2) x.p1 (Aa F x.p2).2.1 (Aa F x.p2).2.2 (Ac F x.p1).2)) (k:=((Aa F x.p2).2.1)) (m:=((Ac F x.p1).2)) h300 rfl rfl rfl s33 1 rfl rfl rfl rfl ω hpl633.1.2 (CO hpl633.2) (by exact (show A.B<maxLen from Gt hA hn)) (LA hc15) (KB hok hpk848.1 hpk848.2 hm3 hro869) (cs':=[Ah cf 65 [π (A.ad 0),.map (some ob)],Av (movedF (Af F (Aa F x.p2).2.1 (Aa F x.p2).2.2 m2) x.p1 (Aa F x.p2).2.1 (Aa F x.p2).2.2 (Ac F x.p1).2) ((A.lnk m2 (AR F A m2-1)).inc),AM KO ob A.C (opG F A),Ah g1 37 zL,Ah g4 30 (cL x),Ch.many R]) rfl fun _ w33 h301 s34=>hK58 _ _ ?_
           refine h301.sn [9,13,12,11,10,8,7,6,5,0,2] rfl fun h302=>hK57 _ _<|sqr fun _ hK59=>bu h302 (v:=.agg zL.toArray) rfl (fun w=>κ) fun _ h303=>mv h303 rfl fun _ h304=>stA h304 s34 3 rfl rfl rfl κ rfl rfl rfl rfl fun _ w34 h305 s35 _=>h305.sk [106,105,9,13,12,11,10,8,6,5,0,2] rfl fun h306=>mv h306 rfl fun _ h307=>h307.sn [7,9,13,12,11,10,8,6,5,0,2] rfl fun h308=>hK59 _ _ ?_
           refine wp_ret ?_
           try simp only [Exit.then,Exit.inBlock]
           refine rCt h308 s35 3 υ37 rfl rfl rfl rfl rfl ?_
           have s36:Sep w34 [Ah cf 65 [π (A.ad 0),.map (some ob)],Av (movedF (Af F (Aa F x.p2).2.1 (Aa F x.p2).2.2 m2) x.p1 (Aa F x.p2).2.1 (Aa F x.p2).2.2 (Ac F x.p1).2) ((A.lnk m2 (AR F A m2-1)).inc),AM KO ob A.C (opG (movedF (Af F (Aa F x.p2).2.1 (Aa F x.p2).2.2 m2) x.p1 (Aa F x.p2).2.1 (Aa F x.p2).2.2 (Ac F x.p1).2) A),Ah g1 37 zL,Ah g4 30 (cL x),Ch.many R]:=by rw [Ji];exact s35
           have hq10:Am F x.p1 x.p2=(movedF (Af F (Aa F x.p2).2.1 (Aa F x.p2).2.2 m2) x.p1 (Aa F x.p2).2.1 (Aa F x.p2).2.2 (Ac F x.p1).2,Au 0):=by unfold Am;rw [if_pos (show ((Ag x.p1).isSome=true∧(Ag x.p2).isSome=true)∧¬ x.p1=[47]∧¬ x.p2=[47] from ⟨⟨(AJ hc1).1,(AJ hc2).1⟩,(AJ hc1).2,(AJ hc2).2⟩),if_pos ω,if_neg (show ¬ ((F.dir (Ac F x.p1).2=true∧¬ x.p1=x.p2)∧CX (Ag x.p2) (Ag x.p1)=true) from (fun q=>hp9.elim (fun z=>AH z q.1.1) (fun z=>z (fun w=>q.1.2 w.symm)))),if_pos ω];unfold Bh;rw [hm3];try dsimp only;rw [if_neg (show ¬ (m2=(Ac F x.p1).2) from (dF hc13)),if_neg (show ¬ (F.dir (Ac F x.p1).2=true∧F.dir m2=false) from (fun q=>AH q.2 hc15)),if_neg (show ¬ (F.dir (Ac F x.p1).2=true∧0<BH F.E m2) from (fun q=>dF hc16 q.2)),if_neg (show ¬ (F.dir (Ac F x.p1).2=false∧F.dir m2=true) from (fun q=>AH q.1 hc14))]
           rw [hq10]
           exact ⟨(A.lnk m2 (AR F A m2-1)).inc,none,0,rfl,(Sep.tail_un (xs:=[_,_,_]) (s36.pk [0,1,2,5] rfl)).ownNil 0 9 1,hA.movedD hok hpk848.1 hpk848.2 hm3 hro869 hc15 _⟩
         ·skip
          have hmr906:BI F ((Ac F x.p1).2) m2=12:=by unfold BI;rw [if_neg (dF hc13),if_pos ⟨hc14,hc15⟩]
          refine cl h236 rfl By ((by have z:=Eb (cf:=cf) (F:=F) (A:=A) (n0:=(Ac F x.p1).2) (m0:=m2) s26 hok hz0 ω ω;rw [hmr906] at z;exact z)) fun _ v18 w35 r18 h309=>?_
          obtain ⟨rfl,s37⟩:=r18
          refine mv h309 rfl fun _ h310=>h310.sn [13,12,9,11,10,8,7,6,5,0,2] rfl fun h311=>hK49 _ _<|sqr fun _ hK60=>mvs 2 h311 rfl fun _ h312=>sw1 h312 rfl (GG h312 rfl rfl rfl (NdP.eq (F:=FsM.nE F) (A:=AdM.nC A) (j:=m2) (k:=((Ac F x.p1).2)) (s37.get 1 rfl:NdP _ _ _) (show m2<F.N.length from ω) (show (Ac F x.p1).2<F.N.length from ω) _ _)) fun _ h313=>mv h313 rfl fun _ h314=>sv h314 ((wF h314 rfl rfl rfl).trans (BC hc13)) rfl rfl rfl (Ap h314 rfl rfl) fun _ h315=>sv h315 ((wF h315 rfl rfl rfl).trans (BC hc13)) rfl rfl rfl (BG h315 rfl rfl rfl (cNe _ _ _ _ rfl)) fun _ h316=>sv1 h316 rfl (BT h316 rfl (E:=(decide (m2=(Ac F x.p1).2))) (b:=false) rfl hc13 rfl) fun _ h317=>?_
          refine h317.sn [85,13,12,9,11,10,8,7,6,5,0,2] rfl fun h318=>hK60 _ _<|wcT h318 rfl rfl<|h318.sk [13,12,9,11,10,8,7,6,5,0,2] rfl fun h319=>sqr fun _ hK61=>bu h319 (v:=.agg zL.toArray) rfl (fun w=>κ) fun _ h320=>mv h320 rfl fun _ h321=>stA h321 s37 3 rfl rfl rfl κ rfl rfl rfl rfl fun _ w36 h322 s38 _=>h322.sk [87,86,13,12,9,11,10,8,6,5,0,2] rfl fun h323=>mv h323 rfl fun _ h324=>?_
          refine h324.sn [7,13,12,9,11,10,8,6,5,0,2] rfl fun h325=>hK61 _ _<|wp_ret ?_
          try simp only [Exit.then,Exit.inBlock]
          refine rCt h325 s38 3 υ37 rfl rfl rfl rfl rfl ?_
          have hq11:Am F x.p1 x.p2=(F,Au 12):=by unfold Am;rw [if_pos (show ((Ag x.p1).isSome=true∧(Ag x.p2).isSome=true)∧¬ x.p1=[47]∧¬ x.p2=[47] from ⟨⟨(AJ hc1).1,(AJ hc2).1⟩,(AJ hc1).2,(AJ hc2).2⟩),if_pos ω,if_neg (show ¬ ((F.dir (Ac F x.p1).2=true∧¬ x.p1=x.p2)∧CX (Ag x.p2) (Ag x.p1)=true) from (fun q=>hp9.elim (fun z=>AH z q.1.1) (fun z=>z (fun w=>q.1.2 w.symm)))),if_pos ω];unfold Bh;rw [hm3];try dsimp only;rw [if_neg (show ¬ (m2=(Ac F x.p1).2) from (dF hc13)),if_pos (show F.dir (Ac F x.p1).2=true∧F.dir m2=false from ⟨hc14,hc15⟩)]
          rw [hq11]
          exact ⟨A,none,0,rfl,(Sep.tail_un (xs:=[_,_,_]) (s38.pk [0,1,2,5] rfl)).ownNil 0 9 1,hA.mono⟩
        ·skip
         rcases bC (F.dir m2) with hc17 | hc17
         ·skip
          have hmr953:BI F ((Ac F x.p1).2) m2=13:=by unfold BI;rw [if_neg (dF hc13),if_neg (fun q=>AH hc14 q.1),if_neg (fun q=>AH hc14 q.1),if_pos ⟨hc14,hc17⟩]
          refine cl h236 rfl By ((by have z:=Eb (cf:=cf) (F:=F) (A:=A) (n0:=(Ac F x.p1).2) (m0:=m2) s26 hok hz0 ω ω;rw [hmr953] at z;exact z)) fun _ v19 w37 r19 h326=>?_
          obtain ⟨rfl,s39⟩:=r19
          refine mv h326 rfl fun _ h327=>h327.sn [13,12,9,11,10,8,7,6,5,0,2] rfl fun h328=>hK49 _ _<|sqr fun _ hK62=>mvs 2 h328 rfl fun _ h329=>sw1 h329 rfl (GG h329 rfl rfl rfl (NdP.eq (F:=FsM.nE F) (A:=AdM.nC A) (j:=m2) (k:=((Ac F x.p1).2)) (s39.get 1 rfl:NdP _ _ _) (show m2<F.N.length from ω) (show (Ac F x.p1).2<F.N.length from ω) _ _)) fun _ h330=>mv h330 rfl fun _ h331=>sv h331 ((wF h331 rfl rfl rfl).trans (BC hc13)) rfl rfl rfl (Ap h331 rfl rfl) fun _ h332=>sv h332 ((wF h332 rfl rfl rfl).trans (BC hc13)) rfl rfl rfl (BG h332 rfl rfl rfl (cNe _ _ _ _ rfl)) fun _ h333=>sv1 h333 rfl (BT h333 rfl (E:=(decide (m2=(Ac F x.p1).2))) (b:=false) rfl hc13 rfl) fun _ h334=>?_
          refine h334.sn [85,13,12,9,11,10,8,7,6,5,0,2] rfl fun h335=>hK62 _ _<|wcT h335 rfl rfl<|h335.sk [13,12,9,11,10,8,7,6,5,0,2] rfl fun h336=>sqr fun _ hK63=>bu h336 (v:=.agg zL.toArray) rfl (fun w=>κ) fun _ h337=>mv h337 rfl fun _ h338=>stA h338 s39 3 rfl rfl rfl κ rfl rfl rfl rfl fun _ w38 h339 s40 _=>h339.sk [87,86,13,12,9,11,10,8,6,5,0,2] rfl fun h340=>mv h340 rfl fun _ h341=>?_
          refine h341.sn [7,13,12,9,11,10,8,6,5,0,2] rfl fun h342=>hK63 _ _<|wp_ret ?_
          try simp only [Exit.then,Exit.inBlock]
          refine rCt h342 s40 3 υ37 rfl rfl rfl rfl rfl ?_
          have hq12:Am F x.p1 x.p2=(F,Au 13):=by unfold Am;rw [if_pos (show ((Ag x.p1).isSome=true∧(Ag x.p2).isSome=true)∧¬ x.p1=[47]∧¬ x.p2=[47] from ⟨⟨(AJ hc1).1,(AJ hc2).1⟩,(AJ hc1).2,(AJ hc2).2⟩),if_pos ω,if_neg (show ¬ ((F.dir (Ac F x.p1).2=true∧¬ x.p1=x.p2)∧CX (Ag x.p2) (Ag x.p1)=true) from (fun q=>hp9.elim (fun z=>AH z q.1.1) (fun z=>z (fun w=>q.1.2 w.symm)))),if_pos ω];unfold Bh;rw [hm3];try dsimp only;rw [if_neg (show ¬ (m2=(Ac F x.p1).2) from (dF hc13)),if_neg (show ¬ (F.dir (Ac F x.p1).2=true∧F.dir m2=false) from (fun q=>AH hc14 q.1)),if_neg (show ¬ (F.dir (Ac F x.p1).2=true∧0<BH F.E m2) from (fun q=>AH hc14 q.1)),if_pos (show F.dir (Ac F x.p1).2=false∧F.dir m2=true from ⟨hc14,hc17⟩)]
          rw [hq12]
          exact ⟨A,none,0,rfl,(Sep.tail_un (xs:=[_,_,_]) (s40.pk [0,1,2,5] rfl)).ownNil 0 9 1,hA.mono⟩
         ·skip
          have hmr998:BI F ((Ac F x.p1).2) m2=0:=by unfold BI;rw [if_neg (dF hc13),if_neg (fun q=>AH hc14 q.1),if_neg (fun q=>AH hc14 q.1),if_neg (fun q=>AH hc17 q.2)]
          refine cl h236 rfl By ((by have z:=Eb (cf:=cf) (F:=F) (A:=A) (n0:=(Ac F x.p1).2) (m0:=m2) s26 hok hz0 ω ω;rw [hmr998] at z;exact z)) fun _ v20 w39 r20 h343=>?_
          obtain ⟨rfl,s41⟩:=r20
          refine mv h343 rfl fun _ h344=>h344.sn [13,12,9,11,10,8,7,6,5,0,2] rfl fun h345=>hK49 _ _<|sqr fun _ hK64=>mvs 2 h345 rfl fun _ h346=>sw1 h346 rfl (GG h346 rfl rfl rfl (NdP.eq (F:=FsM.nE F) (A:=AdM.nC A) (j:=m2) (k:=((Ac F x.p1).2)) (s41.get 1 rfl:NdP _ _ _) (show m2<F.N.length from ω) (show (Ac F x.p1).2<F.N.length from ω) _ _)) fun _ h347=>mv h347 rfl fun _ h348=>sv h348 ((wF h348 rfl rfl rfl).trans (BC hc13)) rfl rfl rfl (Ap h348 rfl rfl) fun _ h349=>sv h349 ((wF h349 rfl rfl rfl).trans (BC hc13)) rfl rfl rfl (BG h349 rfl rfl rfl (cNe _ _ _ _ rfl)) fun _ h350=>sv1 h350 rfl (BT h350 rfl (E:=(decide (m2=(Ac F x.p1).2))) (b:=false) rfl hc13 rfl) fun _ h351=>?_
          refine h351.sn [85,13,12,9,11,10,8,7,6,5,0,2] rfl fun h352=>hK64 _ _<|wcF h352 rfl rfl<|h352.sk [13,12,9,11,10,8,7,6,5,0,2] rfl fun h353=>wp_skip<|hK48 _ _ ?_
          have hlk1026:0≤AR F A m2∧AR F A m2≤20:=by rw [Ea hc17];exact ⟨FsC.links_ge hfo.toFsC ω,hfo.l20 _ ω⟩
          refine wp_region_lit<|mvs 2 h353 rfl fun _ h354=>sv1 h354 rfl (v:=.pointer (some ⟨(A.ad m2),1,none⟩)) (rfa h354 rfl rfl (fun w=>Bk (A.ad m2) 0 w)) fun _ h355=>sw1 h355 rfl (v:=ν (AR F A m2)) (rld h355 rfl rfl (NdP.c1 (F:=FsM.nE F) (A:=AdM.nC A) (k:=m2) (s41.get 1 rfl:NdP _ _ _) (show m2<F.N.length from ω) υ3 rfl)) fun _ h356=>bv h356 (z:=ν (AR F A m2-1)) rfl (Ib _ _ _ ω ω ω) fun _ h357=>mv h357 rfl fun _ h358=>sv1 h358 rfl (v:=.pointer (some ⟨(A.ad m2),1,none⟩)) (rfa h358 rfl rfl (fun w=>Bk (A.ad m2) 0 w)) fun _ h359=>so (wn rfl) fun _ hK65=>Ef (F:=F) (A:=A) (F':=(BE F m2 (-1))) (A':=A) (k:=m2) (off:=1) h359 rfl rfl s41 1 rfl rfl rfl rfl rfl κ ω (by decide) (Io (i:=(-1)) ω hc17 (by rw [Ea hc17];rfl)) (cs':=[Ah cf 65 [π (A.ad 0),.map (some ob)],Av (BE F m2 (-1)) A,AM KO ob A.C (opG F A),Ah g1 37 zL,Ah g4 30 (cL x),Ch.many R]) rfl fun _ w40 h360 s42=>hK65 _ _ ?_
          have hN1046:(BE F m2 (-1)).N.length=F.N.length:=List.length_set
          refine h360.sn [13,12,9,11,10,8,7,6,5,0,2] rfl fun h361=>hK45 _ _<|sq fun _ hK66=>?_
          have hpk1049:(Aa F x.p1).1=0∧Ai F.E (Aa F x.p1).2.1 (Aa F x.p1).2.2=some (Ac F x.p1).2:=Be ω (Gk hc1)
          have hpk1049p:=hpk1049.1
          have hpd1050:=FsC.place (F:=F) (X:=x.p1) hok hpk1049.1
          have hpl1051:Aa (BE F m2 (-1)) x.p1=Aa F x.p1:=Kz ω _ _
          refine wp_region_lit<|mv h361 rfl fun _ h362=>fav h362 rfl (An _ _) fun _ h363=>ldv h363 s42 4 υ9 rfl rfl rfl rfl fun _ h364=>cl h364 rfl Cl (FC (cf:=cf) (F:=(BE F m2 (-1))) (A:=A) s42 (FsC.link hok (n:=m2) ω hc17 _) (Mz hz0) ω (by rw [hpl1051];exact hpk1049.1)) fun _ v21 w41 r21 h365=>?_
          obtain ⟨rfl,s43⟩:=r21
          have s44:Sep w41 [Ah cf 65 [π (A.ad 0),.map (some ob)],Av (Aq (BE F m2 (-1)) (Aa F x.p1).2.1 (Aa F x.p1).2.2) A,AM KO ob A.C (opG F A),Ah g1 37 zL,Ah g4 30 (cL x),Ch.many R]:=by have z:=s43;rw [hpl1051] at z;exact z
          have hN1066:(Aq (BE F m2 (-1)) (Aa F x.p1).2.1 (Aa F x.p1).2.2).N.length=(BE F m2 (-1)).N.length:=rfl
          refine h365.sk [98,97,96,95,13,12,11,10,8,7,6,5,0,2] rfl fun h366=>mv h366 rfl fun _ h367=>h367.sn [9,13,12,11,10,8,7,6,5,0,2] rfl fun h368=>hK66 _ _<|sq fun _ hK67=>?_
          have hro1072:RenOk F ((Ac F x.p1).2) m2:=⟨dF hc13,(fun q=>AH hc14 q.1),(fun q=>AH hc14 q.1),(fun q=>AH hc17 q.2)⟩
          refine wp_region_lit<|mvs 2 h368 rfl fun _ h369=>sv1 h369 rfl (rfa h369 rfl rfl (fun w=>AF (A.ad (Aa F x.p2).2.1) 0 w)) fun _ h370=>sw1 h370 rfl (rld h370 rfl rfl (NdP.c3 (F:=FsM.nE (Aq (BE F m2 (-1)) (Aa F x.p1).2.1 (Aa F x.p1).2.2)) (A:=AdM.nC A) (k:=((Aa F x.p2).2.1)) (s44.get 1 rfl:NdP _ _ _) (show (Aa F x.p2).2.1<(Aq (BE F m2 (-1)) (Aa F x.p1).2.1 (Aa F x.p1).2.2).N.length from ω) ((DE (F:=F) (n:=m2) ω _ _).trans hpl633.1.2) υ95 rfl)) fun _ h371=>mvs 2 h371 rfl fun _ h372=>so (wn rfl) fun _ hK68=>FU (F:=(Aq (BE F m2 (-1)) (Aa F x.p1).2.1 (Aa F x.p1).2.2)) (A:=A) (F':=(movedF (Af F (Aa F x.p2).2.1 (Aa F x.p2).2.2 m2) x.p1 (Aa F x.p2).2.1 (Aa F x.p2).2.2 (Ac F x.p1).2)) (k:=((Aa F x.p2).2.1)) (m:=((Ac F x.p1).2)) h372 rfl rfl rfl s44 1 rfl rfl rfl rfl ω ((DE (F:=F) (n:=m2) ω _ _).trans hpl633.1.2) (CO hpl633.2) (by exact (show A.B<maxLen from Gt hA hn)) (Py hc17) (KB hok hpk1049.1 hpk1049.2 hm3 hro1072) (cs':=[Ah cf 65 [π (A.ad 0),.map (some ob)],Av (movedF (Af F (Aa F x.p2).2.1 (Aa F x.p2).2.2 m2) x.p1 (Aa F x.p2).2.1 (Aa F x.p2).2.2 (Ac F x.p1).2) A.inc,AM KO ob A.C (opG F A),Ah g1 37 zL,Ah g4 30 (cL x),Ch.many R]) rfl fun _ w42 h373 s45=>hK68 _ _ ?_
          refine h373.sn [9,13,12,11,10,8,7,6,5,0,2] rfl fun h374=>hK67 _ _<|sqr fun _ hK69=>bu h374 (v:=.agg zL.toArray) rfl (fun w=>κ) fun _ h375=>mv h375 rfl fun _ h376=>stA h376 s45 3 rfl rfl rfl κ rfl rfl rfl rfl fun _ w43 h377 s46 _=>h377.sk [106,105,9,13,12,11,10,8,6,5,0,2] rfl fun h378=>mv h378 rfl fun _ h379=>h379.sn [7,9,13,12,11,10,8,6,5,0,2] rfl fun h380=>hK69 _ _ ?_
          refine wp_ret ?_
          try simp only [Exit.then,Exit.inBlock]
          refine rCt h380 s46 3 υ37 rfl rfl rfl rfl rfl ?_
          have s47:Sep w43 [Ah cf 65 [π (A.ad 0),.map (some ob)],Av (movedF (Af F (Aa F x.p2).2.1 (Aa F x.p2).2.2 m2) x.p1 (Aa F x.p2).2.1 (Aa F x.p2).2.2 (Ac F x.p1).2) A.inc,AM KO ob A.C (opG (movedF (Af F (Aa F x.p2).2.1 (Aa F x.p2).2.2 m2) x.p1 (Aa F x.p2).2.1 (Aa F x.p2).2.2 (Ac F x.p1).2) A),Ah g1 37 zL,Ah g4 30 (cL x),Ch.many R]:=by rw [Ji];exact s46
          have hq13:Am F x.p1 x.p2=(movedF (Af F (Aa F x.p2).2.1 (Aa F x.p2).2.2 m2) x.p1 (Aa F x.p2).2.1 (Aa F x.p2).2.2 (Ac F x.p1).2,Au 0):=by unfold Am;rw [if_pos (show ((Ag x.p1).isSome=true∧(Ag x.p2).isSome=true)∧¬ x.p1=[47]∧¬ x.p2=[47] from ⟨⟨(AJ hc1).1,(AJ hc2).1⟩,(AJ hc1).2,(AJ hc2).2⟩),if_pos ω,if_neg (show ¬ ((F.dir (Ac F x.p1).2=true∧¬ x.p1=x.p2)∧CX (Ag x.p2) (Ag x.p1)=true) from (fun q=>hp9.elim (fun z=>AH z q.1.1) (fun z=>z (fun w=>q.1.2 w.symm)))),if_pos ω];unfold Bh;rw [hm3];try dsimp only;rw [if_neg (show ¬ (m2=(Ac F x.p1).2) from (dF hc13)),if_neg (show ¬ (F.dir (Ac F x.p1).2=true∧F.dir m2=false) from (fun q=>AH hc14 q.1)),if_neg (show ¬ (F.dir (Ac F x.p1).2=true∧0<BH F.E m2) from (fun q=>AH hc14 q.1)),if_neg (show ¬ (F.dir (Ac F x.p1).2=false∧F.dir m2=true) from (fun q=>AH hc17 q.2))]
          rw [hq13]
          exact ⟨A.inc,none,0,rfl,(Sep.tail_un (xs:=[_,_,_]) (s47.pk [0,1,2,5] rfl)).ownNil 0 9 1,hA.movedF hok hpk1049.1 hpk1049.2 hm3 hro1072 hc17⟩
      ·skip
       have hm4:=AI hc12
       refine sw1 h228 rfl (Ds h228 rfl rfl rfl (NdP.lookN (F:=FsM.nE F) (A:=AdM.nC A) (k:=((Aa F x.p2).2.1)) (s26.get 1 rfl:NdP _ _ _) (show (Aa F x.p2).2.1<F.N.length from ω) hpl633.1.2 (CO hpl633.2) hm4)) fun _ h381=>mv h381 rfl fun _ h382=>h382.sn [12,9,11,10,8,7,6,5,0,2] rfl fun h383=>hK46 _ _<|sqr fun _ hK70=>mv h383 rfl fun _ h384=>bv h384 rfl (Iz _ υ62 _ _ _) fun _ h385=>h385.sn [75,12,9,11,10,8,7,6,5,0,2] rfl fun h386=>hK70 _ _<|wcF h386 rfl rfl ?_
       refine h386.sk [12,9,11,10,8,7,6,5,0,2] rfl fun h387=>wp_skip<|hK45 _ _<|sq fun _ hK71=>?_
       have hpk1123:(Aa F x.p1).1=0∧Ai F.E (Aa F x.p1).2.1 (Aa F x.p1).2.2=some (Ac F x.p1).2:=Be ω (Gk hc1)
       have hpk1123p:=hpk1123.1
       have hpd1124:=FsC.place (F:=F) (X:=x.p1) hok hpk1123.1
       refine wp_region_lit<|mv h387 rfl fun _ h388=>fav h388 rfl (An _ _) fun _ h389=>ldv h389 s26 4 υ9 rfl rfl rfl rfl fun _ h390=>cl h390 rfl Cl (FC (cf:=cf) (F:=F) (A:=A) s26 hok hz0 ω hpk1123.1) fun _ v22 w44 r22 h391=>?_
       obtain ⟨rfl,s48⟩:=r22
       have hN1138:(Aq F (Aa F x.p1).2.1 (Aa F x.p1).2.2).N.length=F.N.length:=rfl
       refine h391.sk [98,97,96,95,12,11,10,8,7,6,5,0,2] rfl fun h392=>mv h392 rfl fun _ h393=>h393.sn [9,12,11,10,8,7,6,5,0,2] rfl fun h394=>hK71 _ _<|sqr fun _ hK72=>mvs 2 h394 rfl fun _ h395=>sv1 h395 rfl (rfa h395 rfl rfl (fun w=>AF (A.ad (Aa F x.p2).2.1) 0 w)) fun _ h396=>sw1 h396 rfl (rld h396 rfl rfl (NdP.c3 (F:=FsM.nE (Aq F (Aa F x.p1).2.1 (Aa F x.p1).2.2)) (A:=AdM.nC A) (k:=((Aa F x.p2).2.1)) (s48.get 1 rfl:NdP _ _ _) (show (Aa F x.p2).2.1<(Aq F (Aa F x.p1).2.1 (Aa F x.p1).2.2).N.length from ω) hpl633.1.2 υ95 rfl)) fun _ h397=>mvs 2 h397 rfl fun _ h398=>so (wn rfl) fun _ hK73=>FU (F:=(Aq F (Aa F x.p1).2.1 (Aa F x.p1).2.2)) (A:=A) (F':=(movedF F x.p1 (Aa F x.p2).2.1 (Aa F x.p2).2.2 (Ac F x.p1).2)) (k:=((Aa F x.p2).2.1)) (m:=((Ac F x.p1).2)) h398 rfl rfl rfl s48 1 rfl rfl rfl rfl ω hpl633.1.2 (CO hpl633.2) (by exact (show A.B<maxLen from Gt hA hn)) rfl (Lz hm4) (cs':=[Ah cf 65 [π (A.ad 0),.map (some ob)],Av (movedF F x.p1 (Aa F x.p2).2.1 (Aa F x.p2).2.2 (Ac F x.p1).2) A.inc,AM KO ob A.C (opG F A),Ah g1 37 zL,Ah g4 30 (cL x),Ch.many R]) rfl fun _ w45 h399 s49=>hK73 _ _ ?_
       refine h399.sn [9,12,11,10,8,7,6,5,0,2] rfl fun h400=>hK72 _ _<|sqr fun _ hK74=>bu h400 (v:=.agg zL.toArray) rfl (fun w=>κ) fun _ h401=>mv h401 rfl fun _ h402=>stA h402 s49 3 rfl rfl rfl κ rfl rfl rfl rfl fun _ w46 h403 s50 _=>h403.sk [106,105,9,12,11,10,8,6,5,0,2] rfl fun h404=>mv h404 rfl fun _ h405=>h405.sn [7,9,12,11,10,8,6,5,0,2] rfl fun h406=>hK74 _ _ ?_
       refine wp_ret ?_
       try simp only [Exit.then,Exit.inBlock]
       refine rCt h406 s50 3 υ37 rfl rfl rfl rfl rfl ?_
       have hq14:Am F x.p1 x.p2=(movedF F x.p1 (Aa F x.p2).2.1 (Aa F x.p2).2.2 (Ac F x.p1).2,Au 0):=by unfold Am;rw [if_pos (show ((Ag x.p1).isSome=true∧(Ag x.p2).isSome=true)∧¬ x.p1=[47]∧¬ x.p2=[47] from ⟨⟨(AJ hc1).1,(AJ hc2).1⟩,(AJ hc1).2,(AJ hc2).2⟩),if_pos ω,if_neg (show ¬ ((F.dir (Ac F x.p1).2=true∧¬ x.p1=x.p2)∧CX (Ag x.p2) (Ag x.p1)=true) from (fun q=>hp9.elim (fun z=>AH z q.1.1) (fun z=>z (fun w=>q.1.2 w.symm)))),if_pos ω];unfold Bh;rw [hm4];try dsimp only
       rw [hq14]
       exact ⟨A.inc,none,0,rfl,(Sep.tail_un (xs:=[_,_,_]) (s50.pk [0,1,2,5] rfl)).ownNil 0 9 1,hA.moved hpk1123.2⟩
     ·skip
      have hp15:¬ ((Aa F x.p2).1=0):=(dF hc11)
      refine cl h215 rfl BD (Gl (cf:=cf) (A:=A) (F:=F) s4 hok hz0 ω ω) fun _ v23 w47 r23 h407=>?_
      obtain ⟨rfl,s51⟩:=r23
      refine mvs 6 h407 rfl fun _ h408=>h408.sk [11,10,63,62,61,56,60,59,58,57,8,7,6,5,0,2] rfl fun h409=>mv h409 rfl fun _ h410=>h410.sn [9,11,10,8,7,6,5,0,2] rfl fun h411=>hK42 _ _<|sq fun _ hK75=>sqr fun _ hK76=>mv h411 rfl fun _ h412=>bv h412 rfl (cNe _ _ _ _ (decide_eq_true ω)) fun _ h413=>h413.sn [65,9,11,10,8,7,6,5,0,2] rfl fun h414=>hK76 _ _ ?_
      refine wcT h414 rfl rfl<|h414.sk [9,11,10,8,7,6,5,0,2] rfl fun h415=>sqr fun _ hK77=>bu h415 (v:=.agg zL.toArray) rfl (fun w=>κ) fun _ h416=>mv h416 rfl fun _ h417=>stA h417 s51 3 rfl rfl rfl κ rfl rfl rfl rfl fun _ w48 h418 s52 _=>h418.sk [67,66,9,11,10,8,6,5,0,2] rfl fun h419=>mv h419 rfl fun _ h420=>h420.sn [7,9,11,10,8,6,5,0,2] rfl fun h421=>hK77 _ _ ?_
      refine wp_ret ?_
      try simp only [Exit.then,Exit.inBlock]
      refine rCt h421 s52 3 υ37 rfl rfl rfl rfl rfl ?_
      have hq15:Am F x.p1 x.p2=(F,Au (Aa F x.p2).1):=by unfold Am;rw [if_pos (show ((Ag x.p1).isSome=true∧(Ag x.p2).isSome=true)∧¬ x.p1=[47]∧¬ x.p2=[47] from ⟨⟨(AJ hc1).1,(AJ hc2).1⟩,(AJ hc1).2,(AJ hc2).2⟩),if_pos ω,if_neg (show ¬ ((F.dir (Ac F x.p1).2=true∧¬ x.p1=x.p2)∧CX (Ag x.p2) (Ag x.p1)=true) from (fun q=>hp9.elim (fun z=>AH z q.1.1) (fun z=>z (fun w=>q.1.2 w.symm)))),if_neg ω]
      rw [hq15]
      exact ⟨A,none,0,rfl,(Sep.tail_un (xs:=[_,_,_]) (s52.pk [0,1,2,5] rfl)).ownNil 0 9 1,hA.mono⟩
   ·skip
    have hp16:¬ ((Ac F x.p1).1=0):=(dF hc3)
    refine cl h21 rfl AZ (Fa (cf:=cf) (A:=A) (F:=F) (s3.pk [2,3,4,0,1,5] rfl) hok hz0 ω ω) fun _ v24 w49 r24 h422=>?_
    obtain ⟨rfl,s53⟩:=r24
    refine mvs 5 h422 rfl fun _ h423=>h423.sn [9,8,7,6,5,0,2] rfl fun h424=>hK7 _ _<|sq fun _ hK78=>sqr fun _ hK79=>mv h424 rfl fun _ h425=>bv h425 rfl (cNe _ _ _ _ (decide_eq_true ω)) fun _ h426=>h426.sn [33,9,8,7,6,5,0,2] rfl fun h427=>hK79 _ _<|wcT h427 rfl rfl<|h427.sk [9,8,7,6,5,0,2] rfl fun h428=>?_
    refine sqr fun _ hK80=>bu h428 (v:=.agg zL.toArray) rfl (fun w=>κ) fun _ h429=>mv h429 rfl fun _ h430=>stA h430 s53 3 rfl rfl rfl κ rfl rfl rfl rfl fun _ w50 h431 s54 _=>h431.sk [35,34,9,8,6,5,0,2] rfl fun h432=>mv h432 rfl fun _ h433=>h433.sn [7,9,8,6,5,0,2] rfl fun h434=>hK80 _ _<|wp_ret ?_
    try simp only [Exit.then,Exit.inBlock]
    refine rCt h434 s54 3 υ37 rfl rfl rfl rfl rfl ?_
    have hq16:Am F x.p1 x.p2=(F,Au (Ac F x.p1).1):=by unfold Am;rw [if_pos (show ((Ag x.p1).isSome=true∧(Ag x.p2).isSome=true)∧¬ x.p1=[47]∧¬ x.p2=[47] from ⟨⟨(AJ hc1).1,(AJ hc2).1⟩,(AJ hc1).2,(AJ hc2).2⟩),if_neg ω]
    rw [hq16]
    exact ⟨A,none,0,rfl,(Sep.tail_un (xs:=[_,_,_]) (s54.pk [0,1,2,5] rfl)).ownNil 0 9 1,hA.mono⟩
  ·skip
   refine wcT h17 rfl (BC hc2)<|h17.sk [7,6,5,0,2] rfl fun h435=>sqr fun _ hK81=>bu h435 (v:=.agg zL.toArray) rfl (fun w=>κ) fun _ h436=>stA h436 s3 0 rfl rfl rfl κ rfl rfl rfl rfl fun _ w51 h437 s55 _=>h437.sk [24,6,5,0,2] rfl fun h438=>mv h438 rfl fun _ h439=>h439.sn [7,6,5,0,2] rfl fun h440=>hK81 _ _<|wp_ret ?_
   try simp only [Exit.then,Exit.inBlock]
   refine rCt h440 s55 0 υ37 rfl rfl rfl rfl rfl ?_
   have hq17:Am F x.p1 x.p2=(F,Au 15):=by unfold Am;rw [if_neg (show ¬ (((Ag x.p1).isSome=true∧(Ag x.p2).isSome=true)∧¬ x.p1=[47]∧¬ x.p2=[47]) from (fun q=>QW hc2 q.1.2 q.2.2))]
   rw [hq17]
   exact ⟨A,none,0,rfl,(Sep.tail_un (xs:=[_,_,_]) (s55.pk [2,3,4,5] rfl)).ownNil 0 9 1,hA.mono⟩
 ·skip
  refine su h13 ((wF h13 rfl rfl rfl).trans (Bq (BC hc1))) rfl rfl rfl fun _ h441=>su h441 ((wF h441 rfl rfl rfl).trans (Bq (BC hc1))) rfl rfl rfl fun _ h442=>sv1 h442 rfl (BT h442 rfl (E:=(!(Jj x.p1))) (b:=true) rfl (BC hc1) rfl) fun _ h443=>h443.sn [23,7,6,5,0,2] rfl fun h444=>hK5 _ _<|wcT h444 rfl rfl<|h444.sk [7,6,5,0,2] rfl fun h445=>sqr fun _ hK82=>bu h445 (v:=.agg zL.toArray) rfl (fun w=>κ) fun _ h446=>stA h446 s2 0 rfl rfl rfl κ rfl rfl rfl rfl fun _ w52 h447 s56 _=>?_
  refine h447.sk [24,6,5,0,2] rfl fun h448=>mv h448 rfl fun _ h449=>h449.sn [7,6,5,0,2] rfl fun h450=>hK82 _ _<|wp_ret ?_
  try simp only [Exit.then,Exit.inBlock]
  refine rCt h450 s56 0 υ37 rfl rfl rfl rfl rfl ?_
  have hq18:Am F x.p1 x.p2=(F,Au 15):=by unfold Am;rw [if_neg (show ¬ (((Ag x.p1).isSome=true∧(Ag x.p2).isSome=true)∧¬ x.p1=[47]∧¬ x.p2=[47]) from (fun q=>QW hc1 q.1.1 q.2.1))]
  rw [hq18]
  exact ⟨A,none,0,rfl,(Sep.tail_un (xs:=[_,_,_]) (s56.pk [2,3,4,5] rfl)).ownNil 0 9 1,hA.mono⟩
end
end Go.Proofs.YtcanemamnmmbcaaGreatDoor
