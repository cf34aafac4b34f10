/- Parts of the proof. -/
import Derived.Ground.SlsfProg
import Derived.Shelf.SlSortCmp.NoneTotal
import Derived.Laws.StructEq
import Derived.Test.YtcanemamnmmbcaaGreatDoorQal
namespace Go.Proofs.YtcanemamnmmbcaaGreatDoor
open Go.RowKit
set_option linter.unusedSimpArgs false
set_option linter.unusedVariables false
set_option linter.unusedSectionVars false
set_option maxRecDepth 100000
set_option maxHeartbeats 8000000
section
open Go.Shelf
def NO:Go.Shelf.Ren:=⟨fun | 20=>108 | n=>n,fun | 24=>68 | 22=>103 | 3=>3 | 25=>108 | 4=>4 | 0=>0 | n=>n,fun | n=>n⟩
def Ox:Go.Shelf.Ren:=⟨fun | 14=>94 | 20=>108 | 21=>109 | 22=>110 | 23=>111 | 24=>112 | 25=>113 | 26=>114 | 27=>115 | 46=>129 | 47=>130 | 48=>131 | 49=>132 | 50=>133 | 15=>95 | 57=>149 | 28=>116 | 29=>117 | n=>n,fun | 24=>68 | 22=>103 | 3=>3 | 25=>108 | 4=>4 | 0=>0 | 46=>162 | 45=>161 | 50=>166 | 66=>182 | 39=>145 | 55=>171 | 70=>186 | 76=>200 | 77=>201 | 53=>169 | 5=>5 | 9=>9 | n=>n,fun | n=>n⟩
def Jn:Go.Shelf.Ren:=⟨fun | 6=>82 | 15=>95 | 14=>94 | 28=>116 | 29=>117 | 20=>108 | 21=>109 | 22=>110 | 23=>111 | 24=>112 | 25=>113 | 26=>114 | 27=>115 | 46=>129 | 47=>130 | 48=>131 | 49=>132 | 50=>133 | 57=>149 | n=>n,fun | 22=>103 | 24=>68 | 25=>108 | 3=>3 | 39=>145 | 0=>0 | 53=>169 | 55=>171 | 4=>4 | 46=>162 | 45=>161 | 50=>166 | 5=>5 | 9=>9 | 66=>182 | 70=>186 | 76=>200 | 77=>201 | n=>n,fun | n=>n⟩
theorem IS:Go.Proofs.SlLaysF0.n6 Tryz.prog Jn:={
  mixed:=κ
  f6:=⟨Tryz.f82.name,by decide,Tryz.func82.trans (congrArg some κ)⟩
  f14:=⟨Tryz.f94.name,by decide,Tryz.func94.trans (congrArg some κ)⟩
  f15:=Tryz.func95.trans (congrArg some κ)
  f20:=⟨Tryz.f108.name,by decide,Tryz.func108.trans (congrArg some κ)⟩
  f21:=⟨Tryz.f109.name,by decide,Tryz.func109.trans (congrArg some κ)⟩
  f22:=⟨Tryz.f110.name,by decide,Tryz.func110.trans (congrArg some κ)⟩
  f23:=⟨Tryz.f111.name,by decide,Tryz.func111.trans (congrArg some κ)⟩
  f24:=⟨Tryz.f112.name,by decide,Tryz.func112.trans (congrArg some κ)⟩
  f25:=⟨Tryz.f113.name,by decide,Tryz.func113.trans (congrArg some κ)⟩
  f26:=⟨Tryz.f114.name,by decide,Tryz.func114.trans (congrArg some κ)⟩
  f27:=⟨Tryz.f115.name,by decide,Tryz.func115.trans (congrArg some κ)⟩
  f28:=Tryz.func116.trans (congrArg some κ)
  f29:=Tryz.func117.trans (congrArg some κ)
  f46:=⟨Tryz.f129.name,by decide,Tryz.func129.trans (congrArg some κ)⟩
  f47:=Tryz.func130.trans (congrArg some κ)
  f48:=Tryz.func131.trans (congrArg some κ)
  f49:=⟨Tryz.f132.name,by decide,Tryz.func132.trans (congrArg some κ)⟩
  f50:=⟨Tryz.f133.name,by decide,Tryz.func133.trans (congrArg some κ)⟩
  f57:=⟨Tryz.f149.name,by decide,Tryz.func149.trans (congrArg some κ)⟩
  t0:=υ0
  a0:=Tryz.isAgg0
  z0:=Tryz.sizeOf0
  v0:=Tryz.zeroValue0
  t3:=υ3
  a3:=Tryz.isAgg3
  z3:=Tryz.sizeOf3
  v3:=Tryz.zeroValue3
  t4:=υ4
  a4:=Tryz.isAgg4
  z4:=Tryz.sizeOf4
  v4:=Tryz.zeroValue4
  t5:=υ5
  a5:=Tryz.isAgg5
  z5:=Tryz.sizeOf5
  v5:=Tryz.zeroValue5
  t9:=υ9
  a9:=Tryz.isAgg9
  z9:=Tryz.sizeOf9
  v9:=Tryz.zeroValue9
  t22:=υ103
  a22:=Tryz.isAgg103
  z22:=Tryz.sizeOf103
  v22:=Tryz.zeroValue103
  t25:=υ108
  a25:=Tryz.isAgg108
  z25:=Tryz.sizeOf108
  v25:=Tryz.zeroValue108
  t39:=υ145
  a39:=Tryz.isAgg145
  z39:=Tryz.sizeOf145
  v39:=Tryz.zeroValue145
  t45:=υ161
  a45:=Tryz.isAgg161
  z45:=Tryz.sizeOf161
  v45:=Tryz.zeroValue161
  t46:=υ162
  a46:=Tryz.isAgg162
  z46:=Tryz.sizeOf162
  v46:=Tryz.zeroValue162
  t50:=υ166
  a50:=Tryz.isAgg166
  z50:=Tryz.sizeOf166
  v50:=Tryz.zeroValue166
  t53:=υ169
  a53:=Tryz.isAgg169
  z53:=Tryz.sizeOf169
  v53:=Tryz.zeroValue169
  t55:=υ171
  a55:=Tryz.isAgg171
  z55:=Tryz.sizeOf171
  v55:=Tryz.zeroValue171
  t66:=υ182
  a66:=Tryz.isAgg182
  z66:=Tryz.sizeOf182
  v66:=Tryz.zeroValue182
  t70:=υ186
  a70:=Tryz.isAgg186
  z70:=Tryz.sizeOf186
  v70:=Tryz.zeroValue186
  t76:=υ200
  a76:=Tryz.isAgg200
  z76:=Tryz.sizeOf200
  v76:=Tryz.zeroValue200
  t77:=υ201
  a77:=Tryz.isAgg201
  z77:=Tryz.sizeOf201
  v77:=Tryz.zeroValue201 }
open Go.RowKit Go.Lib Go.Sort in
theorem slices_SortFunc_none {α:Type} [Inhabited α] (p:Option Addr) (cap:Nat) (fv:Value) (w:World) :
    Calls Tryz.prog 82 #[.slice p 0 cap,fv] w fun e w'=>e=.returned (.tuple #[])∧w'=w:=AnyF.slices_SortFunc_none IS p cap fv w
open Go.RowKit Go.Lib Go.Sort in
theorem slices_SortFunc_total {α:Type} [Inhabited α] (k:Nat) (aE:∀ w,(isAgg 68).run Tryz.prog w=.ok true w) (zE:∀ w,(Go.sizeOf 68).run Tryz.prog w=.ok k w) (enc:α→List Value) (hk:∀ x,(enc x).length=k) (h1:∀ x,∀ v∈enc x,v.oneCell'=true) (cf:α→α→Int) (hO:SWO (ltOf cf)) (g:Nat) (cb:Array Value) (blk off cap:Nat) (d:Array α) (w:World) (eg:∀ args w,(callFunc g args).run Tryz.prog w=.ok (.enter g args) w) (hcmp:CmpLays Tryz.prog g cb enc k cf blk off d.size w) (hH:HoldsK enc k w blk off d) (hblk:blk<w.heap.size) (hsz:d.size<4611686018427387904) (hT:∀ x y,(ltOf cf) x y=false→(ltOf cf) y x=false→x=y) :
    Calls Tryz.prog 82 #[.slice (some ⟨blk,off,none⟩) d.size cap,.func (.func g) #[] cb] w fun e w'=>
      e=.returned (.tuple #[])∧∃ n os,w'=sortWorldK enc k w blk off n (d.toList.mergeSort fun x y=>!(ltOf cf) y x).toArray os:=AnyQ.slices_SortFunc_total IS k aE zE enc hk h1 cf hO g cb blk off cap d w eg hcmp hH hblk hsz hT
end
section
open Go.RowKit Go.Sort Go.Lib
theorem Mn {α:Type} [Inhabited α] {enc:α→List Value} {sz:Nat} (h:∀ x,(enc x).length=sz) (d:Array α):flatK enc sz d=(d.toList.flatMap enc).toArray:=by
  apply Array.ext'
  refine List.ext_getElem? fun i=>?_
  by_cases hi:i<d.size*sz
  · have hsz:0<sz:=Nat.pos_of_ne_zero fun e=>by subst e;simp at hi
    have hd:i / sz<d.size:=Nat.div_lt_of_lt_mul (by rw [Nat.mul_comm];exact hi)
    have hm:i % sz<sz:=Nat.mod_lt _ hsz
    rw [show (d.toList.flatMap enc).toArray.toList=d.toList.flatMap enc from rfl]
    rw [Ks h (L:=d.toList) (j:=i / sz) (k:=i % sz) default (by simpa using hd) hm (by rw [Nat.mul_comm];exact Nat.div_add_mod i sz)]
    have e:d.toList.getD (i / sz) default=d[i / sz]!:=by simp [List.getD_eq_getElem?_getD,getElem!_pos,hd]
    rw [e,Array.getElem?_toList,Array.getElem?_eq_getElem (by simpa using hi)]
    have hl:i % sz<(enc d[i / sz]!).length:=by rw [h];exact hm
    rw [List.getElem?_eq_getElem hl]
    simp [flatK,hl]
  · rw [List.getElem?_eq_none (by simp [flatK];omega),List.getElem?_eq_none (by show (d.toList.flatMap enc).length≤i;rw [Nt h];simp;omega)]
theorem JG {w:World} {g:Nat} {cur:Array Value} {e:TypeId} {ss:List Value} (hb:w.heap[g]? = some (.cells cur e (0,0))) (ht:cur.toList.take ss.length=ss):Holds id w g 0 ss.toArray:=by
  intro j hj
  have hj':j<ss.length:=by simpa using hj
  refine ⟨?_,by simp [World.frozen?,hb]⟩
  have h1:(cur.toList.take ss.length)[j]? = ss[j]?:=by rw [ht]
  rw [List.getElem?_take_of_lt hj'] at h1
  simp only [World.cell?,hb,Nat.zero_add]
  simp only [Option.isSome_none,Bool.false_eq_true,if_false]
  rw [← Array.getElem?_toList,h1]
  simp [hj']
theorem LR {w:World} {g n:Nat} {os:Array Obj} {cur:Array Value} {e:TypeId} {fr:Nat×Nat} (d:Array Value) (hb:w.heap[g]? = some (.cells cur e fr)) :
    (grow (putRow id (Sort.ahead w n) g 0 d) os).heap[g]? = some (.cells (putCells id 0 d cur) e fr):=by
  have hg:g<w.heap.size:=(Array.getElem?_eq_some_iff.1 hb).1
  rw [heap_grow_old _ _ (by simpa using hg)]
  simp [putRow,mapBlock,Sort.ahead,Array.getElem?_modify,hb,onCells]
theorem JF {w:World} {g n:Nat} {os:Array Obj} (d:Array Value):w.grownBy (grow (putRow id (Sort.ahead w n) g 0 d) os) (some g):=by
  refine ⟨rfl,rfl,rfl,by simp,fun k hk hne=>?_⟩
  rw [heap_grow_old _ _ (by simpa using hk)]
  have:g≠k:=fun e=>hne (by rw [e])
  simp [putRow,mapBlock,Sort.ahead,Array.getElem?_modify,this]
theorem KT (cur:Array Value) (ts:List Value) (h:ts.length≤cur.size):(putCells id 0 ts.toArray cur).toList.take ts.length=ts:=by
  apply List.ext_getElem?
  intro j
  by_cases hj:j<ts.length
  · rw [List.getElem?_take_of_lt hj,Array.getElem?_toList]
    simp [putCells,hj,show j<cur.size by omega]
  · rw [List.getElem?_take_eq_none ω,List.getElem?_eq_none ω]
theorem Pu {α:Type} [Inhabited α] {enc:α→List Value} {sz:Nat} (henc:∀ x,(enc x).length=sz) {w:World} {B:Nat} {e:TypeId} {g c:Nat} {L:List α} (h:Own w B e sz (some ⟨g,0,none⟩) L.length c (L.flatMap enc)) :
    HoldsK enc sz w g 0 L.toArray∧g<w.heap.size∧∀ n os (M:List α),M.length=L.length→Own (sortWorldK enc sz w g 0 n M.toArray os) B e sz (some ⟨g,0,none⟩) M.length c (M.flatMap enc)∧w.grownBy (sortWorldK enc sz w g 0 n M.toArray os) (some g):=by
  obtain ⟨h0,h1⟩:=h
  rcases h1 with ⟨hv,_⟩ | ⟨g',cap,cur,hv,hbase,hb,h2,h3,h4,h5⟩
  · cases hv
  · cases hv
    have hlen:∀ M:List α,M.length=L.length→(M.flatMap enc).length=L.length*sz:=fun M hM=>by rw [Nt henc,hM]
    refine ⟨?_,(Array.getElem?_eq_some_iff.1 hb).1,fun n os M hM=>?_⟩
    · unfold HoldsK
      rw [Mn henc]
      exact JG hb (by rw [show L.toArray.toList=L from rfl,hlen L rfl];exact h5)
    · unfold sortWorldK putRowK
      rw [Mn henc,show M.toArray.toList=M from rfl]
      have hcap:L.length*sz≤cur.size:=by rw [h4];exact Nat.mul_le_mul_right _ h2
      refine ⟨⟨by rw [hlen M hM,hM],.inr ⟨g,c,_,rfl,hbase,LR _ hb,ω,h3,by simp [putCells,h4],?_⟩⟩,JF _⟩
      have:=KT cur (M.flatMap enc) (by rw [hlen M hM];exact hcap)
      rw [hM,← hlen M hM];exact this
end
section
open Go.Sort Go.Lib
theorem Cz (g off:Nat) (w:World):(Instr.fieldAt 68 (.pointer (some ⟨g,off,none⟩)) 0).run Tryz.prog w=.ok (.pointer (some ⟨g,off+0,none⟩)) w:=rfl
theorem DZ (g off:Nat) (w:World):(Instr.fieldAt 68 (.pointer (some ⟨g,off,none⟩)) 1).run Tryz.prog w=.ok (.pointer (some ⟨g,off+1,none⟩)) w:=rfl
theorem CB (args:Array Value) (w:World):(callFunc 93 args).run Tryz.prog w=.ok (.enter 93 args) w:=by
 have h:=Tryz.func93
 go_simp
theorem DR (args:Array Value) (w:World):(callFunc 81 args).run Tryz.prog w=.ok (.enter 81 args) w:=by
 have h:=Tryz.func81
 go_simp
theorem CD (args:Array Value) (w:World):(callFunc 82 args).run Tryz.prog w=.ok (.enter 82 args) w:=by
 have h:=Tryz.func82
 go_simp
theorem SB (w:World) (p q:Int×Int) (hp:(1≤p.1∧p.1≤8)∧0≤p.2∧p.2<8) (hq:(1≤q.1∧q.1≤8)∧0≤q.2∧q.2<8) :
  CallsR Tryz.prog 63 #[.agg #[ν p.1,ν p.2],.agg #[ν q.1,ν q.2]] w (fun v w'=>v=ν (if p.1≠q.1 then p.1-q.1 else p.2-q.2)∧∃ k os,w'=Go.Sort.grow (w.drewN k) os):=by
 have hS:Sep w []:=Sep.nil w
 refine AB Tryz.func63 rfl (N:=20) Tryz.ntmps63 (by show 2≤20;decide) [(0,.agg #[ν p.1,ν p.2]),(1,.agg #[ν q.1,ν q.2])] rfl fun _ h1=>sqr fun _ hK3=>so (wn rfl) fun _ hK1=>Cv h1 rfl rfl rfl rfl rfl (z:=[ν p.1,ν p.2]) rfl hS fun _ g4 w7 h5 s8 b9 _=>hK1 _ _ ?_
 refine so (wn rfl) fun _ hK2=>Cv h5 rfl rfl rfl rfl rfl (z:=[ν q.1,ν q.2]) rfl s8 fun _ g1 w1 h2 s1 b1 _=>hK2 _ _ ?_
 refine mv h2 rfl fun _ h3=>wpList_nil<|hK3 _ _<|sq fun _ hK4=>sqr fun _ hK5=>fav h3 rfl (Cz _ _) fun _ h4=>ldv h4 s1 1 υ3 rfl rfl rfl rfl fun _ h6=>fav h6 rfl (Cz _ _) fun _ h7=>ldv h7 s1 0 υ3 rfl rfl rfl rfl fun _ h8=>bv h8 (z:=.bool (decide (p.1≠q.1))) rfl (cNe _ _ _ _ rfl) fun _ h9=>h9.sn [9,4,3,2,0,1] rfl fun h10=>hK5 _ _ ?_
 rcases bC (decide (p.1≠q.1)) with hc1 | hc1
 ·skip
  have hp1:p.1≠q.1:=(dT hc1)
  refine wcT h10 rfl hc1<|h10.sk [4,3,2,0,1] rfl fun h11=>sqr fun _ hK6=>fav h11 rfl (Cz _ _) fun _ h12=>ldv h12 s1 1 υ3 rfl rfl rfl rfl fun _ h13=>fav h13 rfl (Cz _ _) fun _ h14=>ldv h14 s1 0 υ3 rfl rfl rfl rfl fun _ h15=>bv h15 (z:=ν (p.1-q.1)) rfl (Ib _ _ _ ω ω ω) fun _ h16=>h16.sk [14,13,12,11,10,3,2,0,1] rfl fun h17=>mv h17 rfl fun _ h18=>?_
  refine h18.sn [4,3,2,0,1] rfl fun h19=>hK6 _ _<|wp_ret ?_
  try simp only [Exit.then,Exit.inBlock]
  refine Bn (v:=ν (p.1-q.1)) (Cf h19 rfl rfl) h19.defs ?_
  refine ⟨by rw [if_pos ω],0,?_⟩
  obtain ⟨ob9,rfl⟩:=b9
  obtain ⟨ob17,rfl⟩:=b1
  exact ⟨_,by rw [Go.Sort.alloc_eq_grow,Go.Sort.alloc_eq_grow,Go.Sort.grow_grow];rfl⟩
 ·skip
  have hp2:¬ (p.1≠q.1):=(dF hc1)
  refine wcF h10 rfl hc1<|h10.sk [4,3,2,0,1] rfl fun h20=>wp_skip<|hK4 _ _<|sqr fun _ hK7=>fav h20 rfl (DZ _ _) fun _ h21=>ldv h21 s1 1 υ3 rfl rfl rfl rfl fun _ h22=>fav h22 rfl (DZ _ _) fun _ h23=>ldv h23 s1 0 υ3 rfl rfl rfl rfl fun _ h24=>bv h24 (z:=ν (p.2-q.2)) rfl (Ib _ _ _ ω ω ω) fun _ h25=>h25.sk [19,18,17,16,15,3,2,0,1] rfl fun h26=>?_
  refine mv h26 rfl fun _ h27=>h27.sn [4,3,2,0,1] rfl fun h28=>hK7 _ _<|wp_ret ?_
  try simp only [Exit.then,Exit.inBlock]
  refine Bn (v:=ν (p.2-q.2)) (Cf h28 rfl rfl) h28.defs ?_
  refine ⟨by rw [if_neg ω],0,?_⟩
  obtain ⟨ob9,rfl⟩:=b9
  obtain ⟨ob17,rfl⟩:=b1
  exact ⟨_,by rw [Go.Sort.alloc_eq_grow,Go.Sort.alloc_eq_grow,Go.Sort.grow_grow];rfl⟩
abbrev DF:=Fin 8×Fin 8
def df (p:DF):Int×Int:=(((p.1.val+1:Nat):Int),((p.2.val:Nat):Int))
theorem Sl (p:DF):(1≤(df p).1∧(df p).1≤8)∧0≤(df p).2∧(df p).2<8:=by
 have h1:=p.1.isLt
 have h2:=p.2.isLt
 unfold df
 refine ⟨⟨?_,?_⟩,?_,?_⟩<;>simp only<;>omega
theorem SD {p q:DF} (h:df p=df q):p=q:=by
 unfold df at h
 have h1:=(Prod.mk.inj h).1
 have h2:=(Prod.mk.inj h).2
 exact Prod.ext (Fin.ext ω) (Fin.ext ω)
theorem Sm:∀ {K:List (Int×Int)},(∀ p∈K,(1≤p.1∧p.1≤8)∧0≤p.2∧p.2<8)→∃ M:List DF,K=M.map df
 | [],_=>⟨[],rfl⟩
 | p::K,h=>by
  obtain ⟨M,hM⟩:=Sm (K:=K) (fun q hq=>h q (List.mem_cons_of_mem _ hq))
  have hp:=h p List.mem_cons_self
  refine ⟨(⟨(p.1-1).toNat,ω⟩,⟨p.2.toNat,ω⟩)::M,?_⟩
  rw [List.map_cons,← hM]
  congr 1
  unfold df
  exact Prod.ext (by show p.1=_;simp only;omega) (by show p.2=_;simp only;omega)
def Ni (p:DF):List Value:=kvC (df p)
theorem Ok (M:List DF):(M.map df).flatMap kvC=M.flatMap Ni:=by induction M<;>simp_all [Ni]
def cfD (x y:DF):Int:=if (df x).1≠(df y).1 then (df x).1-(df y).1 else (df x).2-(df y).2
theorem LU (x y:DF):ltOf cfD x y=true↔(df x).1<(df y).1∨((df x).1=(df y).1∧(df x).2<(df y).2):=by
 unfold ltOf cfD
 rw [decide_eq_true_eq]
 split<;>omega
theorem Kt (x y:DF):ltOf cfD x y=false↔¬ ((df x).1<(df y).1∨((df x).1=(df y).1∧(df x).2<(df y).2)):=by
 rw [← LU];simp
theorem TC:Go.Sort.SWO (ltOf cfD):=by
 refine ⟨fun x=>?_,fun x y z h1 h2=>?_,fun x y z h1 h2=>?_⟩
 ·rw [Kt];omega
 ·rw [LU] at *;omega
 ·rw [Kt] at *;omega
theorem Uh (x y:DF) (h1:ltOf cfD x y=false) (h2:ltOf cfD y x=false):x=y:=by
 rw [Kt] at *
 exact SD (Prod.ext ω ω)
theorem Te (args:Array Value) (w:World):(callFunc 63 args).run Tryz.prog w=.ok (.enter 63 args) w:=by
 have h:=Tryz.func63
 go_simp
theorem Sb {w:World} {B:Nat} {a:Option Addr} {c:Nat} {F:FsM} {K:List (Int×Int)} {R:List Ch} (hS:Sep w (Ak B 68 2 a K.length c (K.flatMap kvC)::R)) (hp:K.Perm (EX F)) :
  CallsR Tryz.prog 82 #[.slice a K.length c,.func (.func 63) #[] #[]] w fun v w'=>v=.tuple #[]∧Sep w' (Ak 0 68 2 a (EX F).length c ((EX F).flatMap kvC)::R):=by
 have hO:Own w 0 68 2 a K.length c (K.flatMap kvC):=Own.low (hS.get 0 rfl) (Nat.zero_le _)
 obtain ⟨M,rfl⟩:=Sm (K:=K) (fun p h=>Pc (List.mem_filter.1 (hp.mem_iff.1 h)).1)
 cases a with
 | none=>
  have hn:(M.map df).length=0:=by
   rcases hO.2 with ⟨_,h0⟩ | ⟨g',cap,cur,hv,_⟩
   ·exact h0
   ·cases hv
  have hM:M=[]:=List.eq_nil_of_length_eq_zero (by simpa using hn)
  subst hM
  have ha:EX F=[]:=List.eq_nil_of_length_eq_zero (by rw [← hp.length_eq];rfl)
  rw [ha]
  refine (slices_SortFunc_none (α:=DF) none c _ w).mono fun e w' q=>⟨_,q.1,rfl,?_⟩
  rw [q.2]
  exact Sep.upd hS 0 rfl (Turns.refl (fun _=>False) w) (fun k _ e=>e.elim) (c':=Ak 0 68 2 none 0 c []) hO (fun k hk=>.inl hk)
 | some ad=>
  have had:∃ q,ad=⟨q,0,none⟩:=by
   rcases hO.2 with ⟨hv,_⟩ | ⟨g',cap,cur,hv,_⟩
   ·cases hv
   ·cases hv;exact ⟨g',rfl⟩
  obtain ⟨q,rfl⟩:=had
  rw [Ok,List.length_map] at hO
  obtain ⟨h1,h2,h3⟩:=Pu (enc:=Ni) (fun _=>rfl) hO
  have hlen:M.length≤64:=by have:=hp.length_eq;rw [List.length_map] at this;have:=IG F;omega
  have hcmp:CmpLays Tryz.prog 63 #[] Ni 2 cfD q 0 M.toArray.size w:=fun m os dk _ x y=>
   Calls.mono (SB _ (df x) (df y) (Sl x) (Sl y)) fun e w' ⟨v,e1,e2,r⟩=>⟨by rw [e1,e2];rfl,r⟩
  have hc:=slices_SortFunc_total (α:=DF) 2 Tryz.isAgg68 Tryz.sizeOf68 Ni (fun _=>rfl) (fun x v hv=>by simp [Ni,kvC] at hv;rcases hv with rfl | rfl<;>rfl) cfD TC 63 #[] q 0 c M.toArray w Te hcmp h1 h2 (by simp;omega) Uh
  rw [List.length_map]
  refine hc.mono fun e w' r=>?_
  obtain ⟨r1,n,os,rfl⟩:=r
  refine ⟨_,r1,rfl,?_⟩
  obtain ⟨M',hM'⟩:∃ M',M'=M.mergeSort fun x y=>!(ltOf cfD) y x:=⟨_,rfl⟩
  have hperm:M'.Perm M:=by rw [hM'];exact List.mergeSort_perm _ _
  have hsorted:(M'.map df).Pairwise (fun p q=>p.1<q.1∨(p.1=q.1∧p.2≤q.2)):=by
   rw [List.pairwise_map,hM']
   refine (List.pairwise_mergeSort (le:=fun x y=>!(ltOf cfD) y x) (fun x y z a b=>?_) (fun x y=>?_) M).imp fun {x y} hxy=>?_
   ·simp only [Bool.not_eq_true'] at a b ⊢
    exact TC.ntrans z y x b a
   ·cases hb:ltOf cfD y x
    ·rfl
    ·simp only [Bool.not_true,Bool.false_or,Bool.not_eq_true']
     rw [LU] at hb;rw [Kt];omega
   ·simp only [Bool.not_eq_true'] at hxy
    rw [Kt] at hxy;omega
  have hall:M'.map df=EX F:=by
   refine List.Perm.eq_of_pairwise (le:=fun p q=>decide (p.1<q.1∨(p.1=q.1∧p.2≤q.2))) (fun a b _ _ h1 h2=>?_) (hsorted.imp fun {a b} h=>decide_eq_true h) ((Og F).imp fun {a b} h=>decide_eq_true ω) ((hperm.map df).trans hp)
   simp only [decide_eq_true_eq] at h1 h2
   exact Prod.ext ω ω
  have hl':M'.length=M.length:=hperm.length_eq
  obtain ⟨o1,o2⟩:=h3 n os M' hl'
  rw [← hM',← hall,Ok,List.length_map]
  exact Sep.upd hS 0 rfl (Turns.of_row (r:=some q) o2) (fun k _ hk=>hk) (c':=Ak 0 68 2 (some ⟨q,0,none⟩) M'.length c (M'.flatMap Ni)) o1 (fun k hk=>.inl hk)
def NY (w:World) (g:Int×Int→Option (Option Nat)) (lb:Array Value):Prop:=
 ∀ L:List (Int×Int),(∀ p,wfD p→(g p).isSome=true→p∈L)→SeqGives Fence.wide 4 Tryz.prog 83 lb kVD (Li g) L.length w
theorem OI {w:World} {R:List Ch} {g:Int×Int→Option (Option Nat)} {lb:Array Value} {L:List (Int×Int)} (hS:Sep w R) (hK:NY w g lb) (hL:∀ p,wfD p→(g p).isSome=true→p∈L) (hl:L.length≤1000) :
  CallsR Tryz.prog 93 #[.slice none 0 0,.func (.func 83) #[] lb] w fun v w'=>∃ K a c,v=.slice a K.length c∧Sep w' (Ak 0 68 2 a K.length c (K.flatMap kvC)::R)∧Li g K:=
 ((callsIn_wide (n:=5)).1 (MY hl (hK L hL))).mono fun e w' ⟨v,K,e1,hO,hr,hb⟩=>by
  obtain ⟨a,c,rfl,hO2⟩:=Fb hr
  exact ⟨_,e1,K,a,c,rfl,hS.own hb hO2,hO⟩
theorem RP {w:World} {ob n:Nat} {g:Int×Int→Option (Option Nat)} {R:List Ch} (hS0:Sep w ([AM KO ob n g]++R)) :
  CallsR Tryz.prog 62 #[.map (some ob)] w (fun v w'=>∃ lb,v=.func (.func 83) #[] lb∧NY w' g lb∧Sep w' ([AM KO ob n g]++R)):=by
 have hS:Sep w [AM KO ob n g,Ch.many R]:=Sep.tail_many (xs:=[_]) hS0;clear hS0
 refine AB Tryz.func62 rfl (N:=4) Tryz.ntmps62 (by show 1≤4;decide) [(0,.map (some ob))] rfl fun _ h1=>sqr fun _ hK3=>so (wn rfl) fun _ hK1=>Cv h1 rfl rfl rfl rfl rfl (z:=[.map (some ob)]) rfl hS fun _ g4 w7 h5 s8 _ _=>hK1 _ _ ?_
 refine mv h5 rfl fun _ h2=>wpList_nil<|hK3 _ _<|sqr fun _ hK2=>sv1 h2 rfl (v:=.func (.func 83) #[] #[π g4]) (FN h2 (xs:=[]) (ys:=[.tmp 1]) rfl (vs:=[]) (us:=[π g4]) rfl rfl) fun _ h3=>h3.sk [3,1,0] rfl fun h4=>mv h4 rfl fun _ h6=>h6.sn [2,1,0] rfl fun h7=>hK2 _ _<|wp_ret ?_
 try simp only [Exit.then,Exit.inBlock]
 refine Bn (v:=.func (.func 83) #[] #[π g4]) (Cf h7 rfl rfl) h7.defs ?_
 have hb:Blk _ _ _ _:=s8.get 0 rfl
 exact ⟨_,rfl,fun L hL=>Mw hb.lt (hb.cell (i:=0) (by simp)) (s8.get 1 rfl:MapG KO _ _ _ _) hL,Sep.tail_un (xs:=[_]) (s8.pk [1,2] rfl)⟩
theorem Nb {w:World} {R:List Ch} {g:Int×Int→Option (Option Nat)} {lb:Array Value} {L:List (Int×Int)} (hS0:Sep w R) (hK:NY w g lb) (hL:∀ p,wfD p→(g p).isSome=true→p∈L) (hl:L.length≤1000) :
  CallsR Tryz.prog 81 #[.func (.func 83) #[] lb] w fun v w'=>∃ K a c,v=.slice a K.length c∧Sep w' (Ak 0 68 2 a K.length c (K.flatMap kvC)::R)∧Li g K:=by
 have hS:Sep w [Ch.many R]:=Sep.tail_many (xs:=[]) hS0;clear hS0
 refine AB Tryz.func81 rfl (N:=5) Tryz.ntmps81 (by show 1≤5;decide) [(0,.func (.func 83) #[] lb)] rfl fun _ h1=>sqr fun _ hK3=>mv h1 rfl fun _ h4=>wpList_nil<|hK3 _ _<|sqr fun _ hK6=>mv h4 rfl fun _ h7=>cl h7 rfl CB (OI (g:=g) hS hK hL hl) fun _ v1 w1 r1 h2=>?_
 obtain ⟨Kx9,kax10,kcx11,rfl,s1,hG16⟩:=r1
 refine h2.sk [4,3,0] rfl fun h3=>mv h3 rfl fun _ h5=>h5.sn [2,0] rfl fun h6=>hK6 _ _<|wp_ret ?_
 try simp only [Exit.then,Exit.inBlock]
 refine Bn (v:=.slice kax10 Kx9.length kcx11) (Cf h6 rfl rfl) h6.defs ?_
 exact ⟨_,_,_,rfl,Sep.tail_un (xs:=[_]) s1,hG16⟩
theorem PB {w:World} {R:List Ch} {g:Int×Int→Option (Option Nat)} {lb:Array Value} {L:List (Int×Int)} {F:FsM} (hS0:Sep w R) (hK:NY w g lb) (hL:∀ p,wfD p→(g p).isSome=true→p∈L) (hl:L.length≤1000) (hF:∀ {K:List (Int×Int)},Li g K→K.Perm (EX F)) :
  CallsR Tryz.prog 61 #[.func (.func 83) #[] lb,.func (.func 63) #[] #[]] w fun v w'=>∃ a c,v=.slice a (EX F).length c∧Sep w' (Ak 0 68 2 a (EX F).length c ((EX F).flatMap kvC)::R):=by
 have hS:Sep w [Ch.many R]:=Sep.tail_many (xs:=[]) hS0;clear hS0
 refine AB Tryz.func61 rfl (N:=12) Tryz.ntmps61 (by show 2≤12;decide) [(0,.func (.func 83) #[] lb),(1,.func (.func 63) #[] #[])] rfl fun _ h1=>sqr fun _ hK3=>mv h1 rfl fun _ h4=>wpList_nil<|hK3 _ _<|sqr fun _ hK6=>mv h4 rfl fun _ h7=>cl h7 rfl DR (Nb (g:=g) hS hK hL hl) fun _ v1 w1 r1 h2=>?_
 obtain ⟨Kx9,kax10,kcx11,rfl,s1,hG16⟩:=r1
 refine mv h2 rfl fun _ h3=>h3.sn [5,4,0,1] rfl fun h5=>hK6 _ _<|sqr fun _ hK1=>mvs 2 h5 rfl fun _ h6=>cl h6 rfl CD (Sb (F:=F) s1 (hF hG16)) fun _ v2 w2 r2 h8=>?_
 obtain ⟨rfl,s2⟩:=r2
 refine h8.sn [5,4,0,1] rfl fun h9=>hK1 _ _<|sqr fun _ hK2=>mv h9 rfl fun _ h10=>h10.sk [11,5,0,1] rfl fun h11=>mv h11 rfl fun _ h12=>h12.sn [4,5,0,1] rfl fun h13=>hK2 _ _<|wp_ret ?_
 try simp only [Exit.then,Exit.inBlock]
 refine Bn (v:=.slice kax10 Kx9.length kcx11) (Cf h13 rfl rfl) h13.defs ?_
 exact ⟨_,_,by rw [(hF hG16).length_eq],Sep.tail_un (xs:=[_]) s2⟩
theorem Tp {F:FsM} {A:AdM} {δ:Nat→Int} (hF:FsC F δ) {K:List (Int×Int)} (h:Li (opG F A) K):K.Perm (EX F):=
 (List.perm_ext_iff_of_nodup h.1 (RJ F)).2 fun p=>by
  rw [h.2,IH hF]
  have e:(opG F A p).isSome=(Az F.O p.1 p.2).isSome:=by unfold opG elA;rw [Option.isSome_map]
  rw [e]
  refine ⟨fun q=>q.2,fun q=>⟨?_,q⟩⟩
  obtain ⟨m,hm⟩:=Option.isSome_iff_exists.1 q
  exact wfO hF hm
theorem QF {F:FsM} {A:AdM} {δ:Nat→Int} (hF:FsC F δ):∀ p,wfD p→(opG F A p).isSome=true→p∈EX F:=fun p _ h=>by
 rw [IH hF]
 unfold opG elA at h;rw [Option.isSome_map] at h;exact h
end
section
theorem ERw:ElemT Tryz.prog 74 76 6 64:=Lp υ74 (z:=.agg #[ν 0,.string ⟨#[]⟩,ν 0,ν 0,ν 0,.string ⟨#[]⟩]) κ rfl ω
def Ck (r:RowM):List Value:=[ν r.dp,.string r.nm,ν r.cl,ν r.fd,ν r.fl,σ r.dt]
theorem Ff (r:RowM):(Ck r).length=6:=rfl
theorem NdP.tellsV {F:FsM} {A:AdM} {w:World} (h:NdP F.nE A.nC w) {V:List Nat} (hV:MkOk F V) {k:Nat} (hk:k<F.N.length):JQ w 62 (flL A V) (A.ad k):=by
 intro p hp
 obtain ⟨q,hq,rfl⟩:=List.mem_map.1 hp
 have hq:=List.mem_range.1 hq
 obtain ⟨v,hv⟩:∃ v,v=V.getD q 0:=⟨_,rfl⟩
 have hl:v<F.N.length:=hV.lt _ (by rw [hv,List.getD_eq_getElem?_getD,List.getElem?_eq_getElem hq];exact List.getElem_mem hq)
 obtain ⟨i,hi,hz⟩:=Kg
 rw [← hv]
 have key:∀ d,(Op.equalIn (d+1) 62 (π (A.ad k)) (π (A.ad v))).run Tryz.prog w=.ok (decide (A.ad k=A.ad v)) w:=fun d=>by
  by_cases e:k=v
  ·rw [← e]
   simp [Op.equalIn,run_underlying υ62,sizeOf,typeInfo,hi,hz,run_sameAddr_same]
  ·have e2:¬ A.ad k=A.ad v:=fun z=>e (h.inj _ _ hk hl z)
   have hne:(⟨A.ad k,0,none⟩:Addr)≠⟨A.ad v,0,none⟩:=fun z=>e2 (by injection z)
   simp [Op.equalIn,run_underlying υ62,sizeOf,typeInfo,hi,hz,run_sameAddr_other w hne (h.nd k hk) (h.nd v hl),e2]
 exact key 9999
theorem Oj (w:World):(zeroValue 3).run Tryz.prog w=.ok (ν 0) w:=κ
section
variable {F:FsM} {A:AdM} {w:World} {V:List Nat} {k fb:Nat}
theorem Oi (hN:NdP F.nE A.nC w) (hV:MkOk F V) (hk:k<F.N.length) (hm:¬ k∈V):EZ (flL A V) (A.ad k)=none:=by rw [Oh (A:=A) hV hN.inj hk,if_neg hm]
theorem Kb (hP:PMap iV w fb (flL A V)) (hN:NdP F.nE A.nC w) (hV:MkOk F V) (hk:k<F.N.length) (hm:k∈V) {ix:Nat} (e:V.idxOf k=ix):(Instr.lookup 99 (.map (some fb)) (pV (A.ad k)) false).run Tryz.prog w=.ok (ν ((ix+1:Nat):Int)) w:=by
 have z:=hP.look υ99 υ62 (Oj w) (hN.tellsV hV hk)
 rw [Oh (A:=A) hV hN.inj hk,if_pos hm,e] at z;exact z
theorem Tl (hP:PMap iV w fb (flL A V)) (hN:NdP F.nE A.nC w) (hV:MkOk F V) (hk:k<F.N.length) (hm:¬ k∈V):(Instr.lookup 99 (.map (some fb)) (pV (A.ad k)) false).run Tryz.prog w=.ok (ν 0) w:=by
 have z:=hP.look υ99 υ62 (Oj w) (hN.tellsV hV hk)
 rw [Oi hN hV hk hm] at z;exact z
end
theorem Tz {α:Type} {av:α→Value} {L:List (Nat×α)} {o:Oper} {a:Act} {N:Nat} {l:List (Nat×Value)} {b:Nat} {w:World} (h:Kn N l a) {x:Operand} {T kt el:TypeId} (ho:o.op=.call { callee:=.builtin .len,args:=#[x],argTypes:=#[T] }) (hx:opv l x=some (.map (some b))) (hP:PMap av w b L) (hT:Tryz.prog.underlying T=some (.map kt el)) {n:Nat} (hl:L.length=n):(execOp a.eval o).run Tryz.prog w=.ok (.value (ν (n:Int))) w:=by
 subst hl
 refine Fe h (xs:=[x]) (vs:=[.map (some b)]) ho (by simp [hx]) fun cs=>?_
 show (builtin .len #[T] o.type cs #[.map (some b)]).run Tryz.prog w=_
 simp only [builtin,Sem.run_bind,hP.len (ty:=o.type) hT]
 rfl
theorem Lj (F:FsM) (n:Nat) (r:RowM) (k:Nat) (t:Rows) {L:List ByteArray} {j:Nat} (hj:j<L.length):DV F n (MT r (L.getD j Bv)) (CL F k (L.getD j Bv)) (addL F n r k (L.take j) t)=addL F n r k (L.take (j+1)) t:=by
 rw [← OE,List.take_succ_eq_append_getElem hj,List.getD_eq_getElem?_getD,List.getElem?_eq_getElem hj];rfl
def Sj (w:World) (f:Value):Prop:=∃ w0:World,w=w0.alloc (.cells #[.map none] 95)∧f=.func (.func 107) #[] #[π w0.heap.size]
theorem RQ {w:World} {R:List Ch} (hS:Sep w R):CallsR Tryz.prog 92 #[.map none] w fun v w'=>Sep w' R∧Sj w' v:=by
 refine ((callsIn_wide (n:=5)).1 (GH none w)).mono ?_
 rintro e w' ⟨rfl,rfl⟩
 exact ⟨_,rfl,hS.mono (KY _ _),w,rfl,rfl⟩
theorem PC {w:World} {R:List Ch} {f:Value} (hS:Sep w R) (h:Sj w f):CallsR Tryz.prog 91 #[f] w fun v w'=>v=.slice none 0 0∧Sep w' R:=by
 obtain ⟨w0,rfl,rfl⟩:=h
 refine ((callsIn_wide (n:=5)).1 (EC w0)).mono ?_
 rintro e w' ⟨v,ss,rfl,hs,_,hn,hb⟩
 exact ⟨_,rfl,hn.2 hs,hS.mono hb⟩
theorem DN (g off:Nat) (w:World):(Instr.fieldAt 101 (.pointer (some ⟨g,off,none⟩)) 0).run Tryz.prog w=.ok (.pointer (some ⟨g,off+0,none⟩)) w:=rfl
theorem EW (g off:Nat) (w:World):(Instr.fieldAt 101 (.pointer (some ⟨g,off,none⟩)) 1).run Tryz.prog w=.ok (.pointer (some ⟨g,off+1,none⟩)) w:=rfl
theorem Fs (g off:Nat) (w:World):(Instr.fieldAt 76 (.pointer (some ⟨g,off,none⟩)) 3).run Tryz.prog w=.ok (.pointer (some ⟨g,off+4,none⟩)) w:=rfl
theorem Eg (g off:Nat) (w:World):(Instr.fieldAt 76 (.pointer (some ⟨g,off,none⟩)) 4).run Tryz.prog w=.ok (.pointer (some ⟨g,off+5,none⟩)) w:=rfl
theorem DO (g off:Nat) (w:World):(Instr.fieldAt 101 (.pointer (some ⟨g,off,none⟩)) 0).run Tryz.prog w=.ok (.pointer (some ⟨g,off+0,none⟩)) w:=rfl
theorem Dh (g off:Nat) (w:World):(Instr.fieldAt 101 (.pointer (some ⟨g,off,none⟩)) 1).run Tryz.prog w=.ok (.pointer (some ⟨g,off+1,none⟩)) w:=rfl
theorem Fu (g off:Nat) (w:World):(Instr.fieldAt 76 (.pointer (some ⟨g,off,none⟩)) 3).run Tryz.prog w=.ok (.pointer (some ⟨g,off+4,none⟩)) w:=rfl
theorem Eh (g off:Nat) (w:World):(Instr.fieldAt 76 (.pointer (some ⟨g,off,none⟩)) 4).run Tryz.prog w=.ok (.pointer (some ⟨g,off+5,none⟩)) w:=rfl
theorem IF (g off:Nat) (w:World):(Instr.fieldAt 76 (.pointer (some ⟨g,off,none⟩)) 0).run Tryz.prog w=.ok (.pointer (some ⟨g,off+0,none⟩)) w:=rfl
theorem GJ (args:Array Value) (w:World):(callFunc 60 args).run Tryz.prog w=.ok (.enter 60 args) w:=by
 have h:=Tryz.func60
 go_simp
theorem DX (g off:Nat) (w:World):(Instr.fieldAt 101 (.pointer (some ⟨g,off,none⟩)) 0).run Tryz.prog w=.ok (.pointer (some ⟨g,off+0,none⟩)) w:=rfl
theorem LF {w:World} {cf ob:Nat} {F:FsM} {A:AdM} {R:List Ch} {δ:Nat→Int} {k0:Nat} (hS0:Sep w ((cP cf ob F A)++R)) (hok:FsC F δ) (hz:SmF F) (hk0:k0<F.N.length) (hd0:F.dir k0=false) :
  CallsR Tryz.prog 80 #[π (A.ad k0)] w (fun v w'=>v=.slice none 0 0∧Sep w' ((cP cf ob F A)++R)):=by
 have hS:=Sep.tail_many (xs:=cP cf ob F A) hS0;clear hS0
 have hz0:=hz;obtain ⟨hz1,hz2,hz3⟩:F.N.length≤1000∧F.E.length≤1000∧F.O.length≤1000:=hz
 refine AB Tryz.func80 rfl (N:=9) Tryz.ntmps80 (by show 1≤9;decide) [(0,π (A.ad k0))] rfl fun _ h1=>sqr fun _ hK3=>mv h1 rfl fun _ h4=>wpList_nil<|hK3 _ _<|sqr fun _ hK6=>mvs 2 h4 rfl fun _ h9=>sv1 h9 rfl (v:=.pointer (some ⟨(A.ad k0),3,none⟩)) (rfa h9 rfl rfl (fun w=>AF (A.ad k0) 0 w)) fun _ h2=>sw1 h2 rfl (v:=.map none) (rld h2 rfl rfl (NdP.c3n (F:=FsM.nE F) (A:=AdM.nC A) (k:=k0) (hS.get 1 rfl:NdP _ _ _) (show k0<F.N.length from ω) hd0 υ95 rfl)) fun _ h3=>cl h3 rfl BU (RQ hS) fun _ v1 w1 r1 h5=>?_
 obtain ⟨s1,hky21⟩:=r1
 refine cl h5 rfl Ep (PC s1 hky21) fun _ v2 w2 r2 h6=>?_
 obtain ⟨rfl,s2⟩:=r2
 refine h6.sk [8,7,6,5,4,3,0] rfl fun h7=>mv h7 rfl fun _ h8=>h8.sn [2,0] rfl fun h10=>hK6 _ _<|wp_ret ?_
 try simp only [Exit.then,Exit.inBlock]
 refine Bn (v:=.slice none 0 0) (Cf h10 rfl rfl) h10.defs ?_
 exact ⟨rfl,Sep.tail_un (xs:=[_,_,_]) s2⟩
theorem PS {w:World} {cf ob:Nat} {F:FsM} {A:AdM} {R:List Ch} {δ:Nat→Int} {sg fb:Nat} {ra:Option Addr} {rc:Nat} {s:Rows} {r:RowM} {k:Nat} (hS0:Sep w ([Ah sg 101 [.slice ra s.1.length rc,.map (some fb)],Ak 0 76 6 ra s.1.length rc (s.1.flatMap Ck),pmC iV fb (flL A s.2),Ah cf 65 [π (A.ad 0),.map (some ob)],Av F A,AM KO ob A.C (opG F A)]++R)) (hok:FsC F δ) (hz:SmF F) (hkl:k<F.N.length) (hMk:MkOk F s.2) (hd:F.dir k=false) (hm:k∈s.2) (hr:s.1.length≤4000) :
  CallsR Tryz.prog 60 #[π sg,.agg #[ν r.dp,.string r.nm,ν r.cl,ν r.fd,ν r.fl,σ r.dt],π (A.ad k)] w (fun v w'=>∃ ra' rc',v=.tuple #[]∧Sep w' ([Ah sg 101 [.slice ra' ((Di F r k s).1.length) rc',.map (some fb)],Ak 0 76 6 ra' ((Di F r k s).1).length rc' (((Di F r k s).1).flatMap Ck),pmC iV fb (flL A (Di F r k s).2),Ah cf 65 [π (A.ad 0),.map (some ob)],Av F A,AM KO ob A.C (opG F A)]++R)):=by
 have hS:Sep w [Ah sg 101 [.slice ra s.1.length rc,.map (some fb)],Ak 0 76 6 ra s.1.length rc (s.1.flatMap Ck),pmC iV fb (flL A s.2),Ah cf 65 [π (A.ad 0),.map (some ob)],Av F A,AM KO ob A.C (opG F A),Ch.many R]:=Sep.tail_many (xs:=[_,_,_,_,_,_]) hS0;clear hS0
 have hz0:=hz;obtain ⟨hz1,hz2,hz3⟩:F.N.length≤1000∧F.E.length≤1000∧F.O.length≤1000:=hz
 have hMl:=hMk.len
 obtain ⟨ix,hix⟩:∃ x,s.2.idxOf k=x:=⟨_,rfl⟩
 refine AB Tryz.func60 rfl (N:=74) Tryz.ntmps60 (by show 3≤74;decide) [(0,π sg),(1,.agg #[ν r.dp,.string r.nm,ν r.cl,ν r.fd,ν r.fl,σ r.dt]),(2,π (A.ad k))] rfl fun _ h1=>sqr fun _ hK3=>so (wn rfl) fun _ hK1=>Cv h1 rfl rfl rfl rfl rfl (z:=[ν r.dp,.string r.nm,ν r.cl,ν r.fd,ν r.fl,σ r.dt]) rfl hS fun _ g4 w7 h5 s8 _ _=>hK1 _ _ ?_
 refine wpList_nil<|hK3 _ _<|sq fun K1 hK2=>?_
 have hJ13:∀  a' w',Kn 74 [(4,π g4),(0,π sg),(1,.agg #[ν r.dp,.string r.nm,ν r.cl,ν r.fd,ν r.fl,σ r.dt]),(2,π (A.ad k))] a'→Sep w' [Ah g4 76 [ν r.dp,.string r.nm,ν r.cl,ν r.fd,ν ((ix+1:Nat):Int),σ ((F.at k).data)],Ah sg 101 [.slice ra s.1.length rc,.map (some fb)],Ak 0 76 6 ra s.1.length rc (s.1.flatMap Ck),pmC iV fb (flL A s.2),Ah cf 65 [π (A.ad 0),.map (some ob)],Av F A,AM KO ob A.C (opG F A),Ch.many R]→K1 a' w':=by
  intro a1 w2 h2 s1
  refine hK2 _ _ ?_
  refine sq fun K2 hK4=>?_
  have hJ19:∀ (p5:Option Addr) (c5:Nat) a' w',Kn 74 [(4,π g4),(0,π sg),(1,.agg #[ν r.dp,.string r.nm,ν r.cl,ν r.fd,ν r.fl,σ r.dt]),(2,π (A.ad k))] a'→Sep w' [Ah g4 76 [ν r.dp,.string r.nm,ν r.cl,ν r.fd,ν ((ix+1:Nat):Int),σ ((F.at k).data)],Ah sg 101 [.slice p5 ((s.1++[(⟨r.dp,r.nm,r.cl,r.fd,((ix+1:Nat):Int),(F.at k).data⟩:RowM)]).length) c5,.map (some fb)],Ak 0 76 6 p5 (s.1++[(⟨r.dp,r.nm,r.cl,r.fd,((ix+1:Nat):Int),(F.at k).data⟩:RowM)]).length c5 ((s.1++[(⟨r.dp,r.nm,r.cl,r.fd,((ix+1:Nat):Int),(F.at k).data⟩:RowM)]).flatMap Ck),pmC iV fb (flL A s.2),Ah cf 65 [π (A.ad 0),.map (some ob)],Av F A,AM KO ob A.C (opG F A),Ch.many R]→K2 a' w':=by
   intro p5 c5 a2 w3 h3 s2
   refine hK4 _ _ ?_
   refine sqr fun _ hK5=>mv h3 rfl fun _ h4=>cl h4 rfl Dg (LF (cf:=cf) (A:=A) (F:=F) (s2.pk [4,5,6,0,1,2,3,7] rfl) hok hz0 hkl hd) fun _ v1 w4 r1 h6=>?_
   obtain ⟨rfl,s3⟩:=r1
   refine sv1 h6 rfl (v:=ν 0) (CR h6 rfl rfl υ33) fun _ h7=>mv h7 rfl fun _ h8=>h8.sn [56,55,54,4,0,1,2] rfl fun h9=>hK5 _ _<|wp_block ?_
   refine DC (fun (z:Nat) a' w'=>Kn 74 [(56,ν 0),(55,ν 0),(54,.slice none 0 0),(4,π g4),(0,π sg),(1,.agg #[ν r.dp,.string r.nm,ν r.cl,ν r.fd,ν r.fl,σ r.dt]),(2,π (A.ad k))] a'∧Sep w' [Ah cf 65 [π (A.ad 0),.map (some ob)],Av F A,AM KO ob A.C (opG F A),Ah g4 76 [ν r.dp,.string r.nm,ν r.cl,ν r.fd,ν ((ix+1:Nat):Int),σ ((F.at k).data)],Ah sg 101 [.slice p5 ((s.1++[(⟨r.dp,r.nm,r.cl,r.fd,((ix+1:Nat):Int),(F.at k).data⟩:RowM)]).length) c5,.map (some fb)],Ak 0 76 6 p5 (s.1++[(⟨r.dp,r.nm,r.cl,r.fd,((ix+1:Nat):Int),(F.at k).data⟩:RowM)]).length c5 ((s.1++[(⟨r.dp,r.nm,r.cl,r.fd,((ix+1:Nat):Int),(F.at k).data⟩:RowM)]).flatMap Ck),pmC iV fb (flL A s.2),Ch.many R]) (fun (z:Nat)=>0) 0 ⟨h9.subs rfl,s3⟩ ?_
   rintro z44 a3 w5 ⟨h10,s4⟩ K3 hK6
   refine sqr fun _ hK7=>bv h10 rfl (cLt _ _ _ _ rfl) fun _ h11=>wpList_nil<|hK7 _ _<|sq fun _ hK8=>wcF h11 rfl rfl<|h11.sk [56,55,54,4,0,1,2] rfl fun h12=>wp_exit ?_
   simp only [Exit.then,Exit.inBlock,↓reduceIte,Nat.reduceEqDiff]
   refine Nj (v:=.tuple #[]) (fun _=>NI rfl _) h12.defs ?_
   rw [OZ hd r s hm,hix]
   exact ⟨_,_,rfl,Sep.tail_un (xs:=[_,_,_,_,_,_]) (s4.pk [4,5,6,0,1,2,7] rfl)⟩
  have s5:=s1.drew
  refine wp_region_held_drew (S:=fun w'=>Sep w' [Ah g4 76 [ν r.dp,.string r.nm,ν r.cl,ν r.fd,ν ((ix+1:Nat):Int),σ ((F.at k).data)],pmC iV fb (flL A s.2),Ah cf 65 [π (A.ad 0),.map (some ob)],Av F A,AM KO ob A.C (opG F A),Ch.many R]) κ (s5.pk [0,3,4,5,6,7] rfl) (fun hq1=>?_)
  refine tv1 hq1 h2 0 rfl rfl (v:=π sg) (fun w1 _=>(Ap h2 rfl rfl) w1) fun _ h13=>?_
  refine tv1 hq1 h13 1 rfl rfl (v:=π sg) (fun w1 _=>(Ap h13 rfl rfl) w1) fun _ h14=>?_
  refine tv1 hq1 h14 2 rfl rfl (v:=π sg) (fun w1 _=>(Cu h14 rfl rfl) w1) fun _ h15=>?_
  refine tv1 hq1 h15 3 rfl rfl (v:=π sg) (fun w1 _=>(rfa h15 rfl rfl (fun w=>DN sg 0 w)) w1) fun _ h16=>?_
  refine tv1 hq1 h16 5 rfl rfl (v:=.agg #[ν r.dp,.string r.nm,ν r.cl,ν r.fd,ν ((ix+1:Nat):Int),σ ((F.at k).data)]) (fun w1 hSw=>(rld h16 rfl rfl (ldA υ76 rfl (n:=6) κ (hSw.get 0 rfl:Blk _ _ _ _) rfl rfl))) fun _ h17=>?_
  refine wpAnyH_ready (rs:=[4,6]) κ (by simp) (toc rfl (wn rfl) (fun K4 hK9=>?_) (toc rfl (wn rfl) (fun K4 hK9=>?_) AllReadyH.nil))
  ·skip
   refine Br h17 rfl rfl rfl (v:=.slice ra s.1.length rc) (w':=w2.drew) ((rld h17 rfl rfl (ldB υ74 rfl (s5.get 1 rfl:Blk _ _ _ _) rfl))) fun _ h18=>hK9 _ _ (s5.pk [0,3,4,5,6,7] rfl) fun hq2=>?_
   refine to_ 6 rfl (wn rfl) κ fun _ hK10=>CY h18 rfl rfl rfl (E:=76) (xs:=[(0,.tmp 48)]) rfl (vs:=[(0,.agg #[ν r.dp,.string r.nm,ν r.cl,ν r.fd,ν ((ix+1:Nat):Int),σ ((F.at k).data)])]) rfl (z:=[ν r.dp,.string r.nm,ν r.cl,ν r.fd,ν ((ix+1:Nat):Int),σ ((F.at k).data)]) (fun _=>κ) s5 fun _ g1 w6 h19 s6 _ _=>?_
   refine hK10 _ _ (s6.pk [1,4,5,6,7,8] rfl) fun hq3=>?_
   refine to_ 7 rfl (wn rfl) κ fun _ hK11=>EI Ff h19 rfl rfl rfl rfl ERw s6 3 rfl rfl 0 (y:=(⟨r.dp,r.nm,r.cl,r.fd,((ix+1:Nat):Int),(F.at k).data⟩:RowM)) rfl rfl rfl (by decide) ω (L':=s.1++[(⟨r.dp,r.nm,r.cl,r.fd,((ix+1:Nat):Int),(F.at k).data⟩:RowM)]) rfl fun _ p76 c77 w8 h20 s7=>?_
   have s9:=s7.pk [1,2,3,4,5,6,7,8] rfl;clear s7
   refine hK11 _ _ (s9.pk [0,3,4,5,6,7] rfl) fun hq4=>?_
   refine tv1 hq4 h20 8 rfl rfl (v:=π sg) (fun w1 _=>(Cu h20 rfl rfl) w1) fun _ h21=>?_
   refine tv1 hq4 h21 9 rfl rfl (v:=π sg) (fun w1 _=>(rfa h21 rfl rfl (fun w=>DN sg 0 w)) w1) fun _ h22=>?_
   refine to_ 10 rfl (wn rfl) κ fun _ hK12=>CQ h22 rfl rfl s9 1 rfl rfl rfl [.slice p76 ((s.1++[(⟨r.dp,r.nm,r.cl,r.fd,((ix+1:Nat):Int),(F.at k).data⟩:RowM)]).length) c77] rfl κ rfl (by show 0+1≤2;decide) (L':=[.slice p76 ((s.1++[(⟨r.dp,r.nm,r.cl,r.fd,((ix+1:Nat):Int),(F.at k).data⟩:RowM)]).length) c77,.map (some fb)]) rfl (cs':=[Ah g4 76 [ν r.dp,.string r.nm,ν r.cl,ν r.fd,ν ((ix+1:Nat):Int),σ ((F.at k).data)],Ah sg 101 [.slice p76 ((s.1++[(⟨r.dp,r.nm,r.cl,r.fd,((ix+1:Nat):Int),(F.at k).data⟩:RowM)]).length) c77,.map (some fb)],Ak 0 76 6 p76 (s.1++[(⟨r.dp,r.nm,r.cl,r.fd,((ix+1:Nat):Int),(F.at k).data⟩:RowM)]).length c77 ((s.1++[(⟨r.dp,r.nm,r.cl,r.fd,((ix+1:Nat):Int),(F.at k).data⟩:RowM)]).flatMap Ck),pmC iV fb (flL A s.2),Ah cf 65 [π (A.ad 0),.map (some ob)],Av F A,AM KO ob A.C (opG F A),Ch.many R]) rfl fun _ w9 h23 s10 _=>?_
   refine hK12 _ _ (s10.pk [0,3,4,5,6,7] rfl) fun hq5=>h23.sk [4,0,1,2] rfl fun h24=>?_
   refine wpAnyH_done κ ?_ _
   exact hJ19 p76 c77 _ _ (h24.subs rfl) s10 
  ·skip
   refine CY h17 rfl rfl rfl (E:=76) (xs:=[(0,.tmp 48)]) rfl (vs:=[(0,.agg #[ν r.dp,.string r.nm,ν r.cl,ν r.fd,ν ((ix+1:Nat):Int),σ ((F.at k).data)])]) rfl (z:=[ν r.dp,.string r.nm,ν r.cl,ν r.fd,ν ((ix+1:Nat):Int),σ ((F.at k).data)]) (fun _=>κ) s5 fun _ g2 w10 h25 s11 _ _=>hK9 _ _ (s11.pk [1,4,5,6,7,8] rfl) fun hq6=>?_
   refine to_ 4 rfl (wn rfl) κ fun _ hK13=>Br h25 rfl rfl rfl (v:=.slice ra s.1.length rc) (w':=w10) ((rld h25 rfl rfl (ldB υ74 rfl (s11.get 2 rfl:Blk _ _ _ _) rfl))) fun _ h26=>hK13 _ _ (s11.pk [1,4,5,6,7,8] rfl) fun hq7=>?_
   refine to_ 7 rfl (wn rfl) κ fun _ hK14=>EI Ff h26 rfl rfl rfl rfl ERw s11 3 rfl rfl 0 (y:=(⟨r.dp,r.nm,r.cl,r.fd,((ix+1:Nat):Int),(F.at k).data⟩:RowM)) rfl rfl rfl (by decide) ω (L':=s.1++[(⟨r.dp,r.nm,r.cl,r.fd,((ix+1:Nat):Int),(F.at k).data⟩:RowM)]) rfl fun _ p109 c110 w11 h27 s12=>?_
   have s13:=s12.pk [1,2,3,4,5,6,7,8] rfl;clear s12
   refine hK14 _ _ (s13.pk [0,3,4,5,6,7] rfl) fun hq8=>?_
   refine tv1 hq8 h27 8 rfl rfl (v:=π sg) (fun w1 _=>(Cu h27 rfl rfl) w1) fun _ h28=>?_
   refine tv1 hq8 h28 9 rfl rfl (v:=π sg) (fun w1 _=>(rfa h28 rfl rfl (fun w=>DN sg 0 w)) w1) fun _ h29=>?_
   refine to_ 10 rfl (wn rfl) κ fun _ hK15=>CQ h29 rfl rfl s13 1 rfl rfl rfl [.slice p109 ((s.1++[(⟨r.dp,r.nm,r.cl,r.fd,((ix+1:Nat):Int),(F.at k).data⟩:RowM)]).length) c110] rfl κ rfl (by show 0+1≤2;decide) (L':=[.slice p109 ((s.1++[(⟨r.dp,r.nm,r.cl,r.fd,((ix+1:Nat):Int),(F.at k).data⟩:RowM)]).length) c110,.map (some fb)]) rfl (cs':=[Ah g4 76 [ν r.dp,.string r.nm,ν r.cl,ν r.fd,ν ((ix+1:Nat):Int),σ ((F.at k).data)],Ah sg 101 [.slice p109 ((s.1++[(⟨r.dp,r.nm,r.cl,r.fd,((ix+1:Nat):Int),(F.at k).data⟩:RowM)]).length) c110,.map (some fb)],Ak 0 76 6 p109 (s.1++[(⟨r.dp,r.nm,r.cl,r.fd,((ix+1:Nat):Int),(F.at k).data⟩:RowM)]).length c110 ((s.1++[(⟨r.dp,r.nm,r.cl,r.fd,((ix+1:Nat):Int),(F.at k).data⟩:RowM)]).flatMap Ck),pmC iV fb (flL A s.2),Ah cf 65 [π (A.ad 0),.map (some ob)],Av F A,AM KO ob A.C (opG F A),Ch.many R]) rfl fun _ w12 h30 s14 _=>?_
   refine hK15 _ _ (s14.pk [0,3,4,5,6,7] rfl) fun hq9=>h30.sk [4,0,1,2] rfl fun h31=>?_
   refine wpAnyH_done κ ?_ _
   exact hJ19 p109 c110 _ _ (h31.subs rfl) s14 
 refine sqr fun _ hK16=>mvs 2 h5 rfl fun _ h32=>sv1 h32 rfl (v:=π (A.ad k)) (rfa h32 rfl rfl (fun w=>Ay (A.ad k) 0 w)) fun _ h33=>sw1 h33 rfl (v:=ν (AP (F.dir k))) (rld h33 rfl rfl (NdP.c0 (F:=FsM.nE F) (A:=AdM.nC A) (k:=k) (s8.get 5 rfl:NdP _ _ _) (show k<F.N.length from ω) υ3 rfl)) fun _ h34=>bv h34 (z:=.bool (!(F.dir k))) rfl (cEq _ _ _ _ (Kh _)) fun _ h35=>h35.sn [12,4,0,1,2] rfl fun h36=>hK16 _ _<|wcT h36 rfl (BC hd)<|h36.sk [4,0,1,2] rfl fun h37=>sq fun _ hK17=>sq fun _ hK18=>wp_region_lit ?_
 refine mvs 2 h37 rfl fun _ h38=>fav h38 rfl (EW _ _) fun _ h39=>ldv h39 s8 1 υ99 rfl rfl rfl rfl fun _ h40=>mv h40 rfl fun _ h41=>sw1 h41 rfl (v:=ν ((ix+1:Nat):Int)) (Ds h41 rfl rfl rfl (Kb (s8.get 3 rfl:PMap _ _ _ _) (s8.get 5 rfl:NdP _ _ _) hMk hkl hm hix)) fun _ h42=>bv h42 rfl (cEq _ _ _ _ (decide_eq_false ω)) fun _ h43=>h43.sn [19,4,0,1,2] rfl fun h44=>hK18 _ _<|wcF h44 rfl rfl<|h44.sk [4,0,1,2] rfl fun h45=>?_
 refine wp_skip<|hK17 _ _ ?_
 have s15:=s8.drew
 refine wp_region_held_drew (S:=fun w'=>Sep w' [Ah sg 101 [.slice ra s.1.length rc,.map (some fb)],Ak 0 76 6 ra s.1.length rc (s.1.flatMap Ck),pmC iV fb (flL A s.2),Ah cf 65 [π (A.ad 0),.map (some ob)],Av F A,AM KO ob A.C (opG F A),Ch.many R]) κ (s15.pk [1,2,3,4,5,6,7] rfl) (fun hq10=>?_)
 refine tv1 hq10 h45 0 rfl rfl (v:=π sg) (fun w1 _=>(Ap h45 rfl rfl) w1) fun _ h46=>?_
 refine tv1 hq10 h46 1 rfl rfl (v:=π sg) (fun w1 _=>(Cu h46 rfl rfl) w1) fun _ h47=>?_
 refine tv1 hq10 h47 2 rfl rfl (v:=.pointer (some ⟨sg,1,none⟩)) (fun w1 _=>(rfa h47 rfl rfl (fun w=>EW sg 0 w)) w1) fun _ h48=>?_
 refine tv1 hq10 h48 3 rfl rfl (v:=.map (some fb)) (fun w1 hSw=>(rld h48 rfl rfl (ldB υ99 rfl (hSw.get 0 rfl:Blk _ _ _ _) rfl))) fun _ h49=>?_
 refine tv1 hq10 h49 4 rfl rfl (v:=π (A.ad k)) (fun w1 _=>(Ap h49 rfl rfl) w1) fun _ h50=>?_
 refine tv1 hq10 h50 6 rfl rfl (v:=π (A.ad k)) (fun w1 _=>(Ap h50 rfl rfl) w1) fun _ h51=>?_
 refine tv1 hq10 h51 7 rfl rfl (v:=π (A.ad k)) (fun w1 _=>(Cu h51 rfl rfl) w1) fun _ h52=>?_
 refine tv1 hq10 h52 8 rfl rfl (v:=.pointer (some ⟨(A.ad k),2,none⟩)) (fun w1 _=>(rfa h52 rfl rfl (fun w=>Bl (A.ad k) 0 w)) w1) fun _ h53=>?_
 refine wpAnyH_ready (rs:=[5,9]) κ (by simp) (toc rfl (wn rfl) (fun K5 hK19=>?_) (toc rfl (wn rfl) (fun K5 hK19=>?_) AllReadyH.nil))
 ·skip
  refine Br h53 rfl rfl rfl (v:=ν ((ix+1:Nat):Int)) (w':=w7.drew) ((Ds h53 rfl rfl rfl (Kb (s15.get 3 rfl:PMap _ _ _ _) (s15.get 5 rfl:NdP _ _ _) hMk hkl hm hix))) fun _ h54=>hK19 _ _ (s15.pk [1,2,3,4,5,6,7] rfl) fun hq11=>?_
  refine tv1 hq11 h54 10 rfl rfl (v:=.pointer (some ⟨g4,4,none⟩)) (fun w1 _=>(rfa h54 rfl rfl (fun w=>Fs g4 0 w)) w1) fun _ h55=>?_
  refine wpAnyH_ready (rs:=[9,11]) κ (by simp) (toc rfl (wn rfl) (fun K6 hK20=>?_) (toc rfl (wn rfl) (fun K6 hK20=>?_) AllReadyH.nil))
  ·skip
   refine Br h55 rfl rfl rfl (v:=σ ((F.at k).data)) (w':=w7.drew) ((rld h55 rfl rfl (NdP.c2 (F:=FsM.nE F) (A:=AdM.nC A) (k:=k) (s15.get 5 rfl:NdP _ _ _) (show k<F.N.length from ω) υ9 rfl))) fun _ h56=>hK20 _ _ (s15.pk [1,2,3,4,5,6,7] rfl) fun hq12=>?_
   refine to_ 11 rfl (wn rfl) κ fun _ hK21=>CQ h56 rfl rfl s15 0 rfl rfl rfl [ν ((ix+1:Nat):Int)] rfl κ rfl (by show 4+1≤6;decide) (L':=[ν r.dp,.string r.nm,ν r.cl,ν r.fd,ν ((ix+1:Nat):Int),σ r.dt]) rfl (cs':=[Ah g4 76 [ν r.dp,.string r.nm,ν r.cl,ν r.fd,ν ((ix+1:Nat):Int),σ r.dt],Ah sg 101 [.slice ra s.1.length rc,.map (some fb)],Ak 0 76 6 ra s.1.length rc (s.1.flatMap Ck),pmC iV fb (flL A s.2),Ah cf 65 [π (A.ad 0),.map (some ob)],Av F A,AM KO ob A.C (opG F A),Ch.many R]) rfl fun _ w13 h57 s16 _=>?_
   refine hK21 _ _ (s16.pk [1,2,3,4,5,6,7] rfl) fun hq13=>?_
   refine tv1 hq13 h57 12 rfl rfl (v:=.pointer (some ⟨g4,5,none⟩)) (fun w1 _=>(rfa h57 rfl rfl (fun w=>Eg g4 0 w)) w1) fun _ h58=>?_
   refine to_ 13 rfl (wn rfl) κ fun _ hK22=>CQ h58 rfl rfl s16 0 rfl rfl rfl [σ ((F.at k).data)] rfl κ rfl (by show 5+1≤6;decide) (L':=[ν r.dp,.string r.nm,ν r.cl,ν r.fd,ν ((ix+1:Nat):Int),σ ((F.at k).data)]) rfl (cs':=[Ah g4 76 [ν r.dp,.string r.nm,ν r.cl,ν r.fd,ν ((ix+1:Nat):Int),σ ((F.at k).data)],Ah sg 101 [.slice ra s.1.length rc,.map (some fb)],Ak 0 76 6 ra s.1.length rc (s.1.flatMap Ck),pmC iV fb (flL A s.2),Ah cf 65 [π (A.ad 0),.map (some ob)],Av F A,AM KO ob A.C (opG F A),Ch.many R]) rfl fun _ w14 h59 s17 _=>?_
   refine hK22 _ _ (s17.pk [1,2,3,4,5,6,7] rfl) fun hq14=>h59.sk [4,0,1,2] rfl fun h60=>?_
   refine wpAnyH_done κ ?_ _
   exact hJ13  _ _ (h60.subs rfl) s17 
  ·skip
   refine CQ h55 rfl rfl s15 0 rfl rfl rfl [ν ((ix+1:Nat):Int)] rfl κ rfl (by show 4+1≤6;decide) (L':=[ν r.dp,.string r.nm,ν r.cl,ν r.fd,ν ((ix+1:Nat):Int),σ r.dt]) rfl (cs':=[Ah g4 76 [ν r.dp,.string r.nm,ν r.cl,ν r.fd,ν ((ix+1:Nat):Int),σ r.dt],Ah sg 101 [.slice ra s.1.length rc,.map (some fb)],Ak 0 76 6 ra s.1.length rc (s.1.flatMap Ck),pmC iV fb (flL A s.2),Ah cf 65 [π (A.ad 0),.map (some ob)],Av F A,AM KO ob A.C (opG F A),Ch.many R]) rfl fun _ w15 h61 s18 _=>hK20 _ _ (s18.pk [1,2,3,4,5,6,7] rfl) fun hq15=>?_
   refine to_ 9 rfl (wn rfl) κ fun _ hK23=>Br h61 rfl rfl rfl (v:=σ ((F.at k).data)) (w':=w15) ((rld h61 rfl rfl (NdP.c2 (F:=FsM.nE F) (A:=AdM.nC A) (k:=k) (s18.get 5 rfl:NdP _ _ _) (show k<F.N.length from ω) υ9 rfl))) fun _ h62=>hK23 _ _ (s18.pk [1,2,3,4,5,6,7] rfl) fun hq16=>?_
   refine tv1 hq16 h62 12 rfl rfl (v:=.pointer (some ⟨g4,5,none⟩)) (fun w1 _=>(rfa h62 rfl rfl (fun w=>Eg g4 0 w)) w1) fun _ h63=>?_
   refine to_ 13 rfl (wn rfl) κ fun _ hK24=>CQ h63 rfl rfl s18 0 rfl rfl rfl [σ ((F.at k).data)] rfl κ rfl (by show 5+1≤6;decide) (L':=[ν r.dp,.string r.nm,ν r.cl,ν r.fd,ν ((ix+1:Nat):Int),σ ((F.at k).data)]) rfl (cs':=[Ah g4 76 [ν r.dp,.string r.nm,ν r.cl,ν r.fd,ν ((ix+1:Nat):Int),σ ((F.at k).data)],Ah sg 101 [.slice ra s.1.length rc,.map (some fb)],Ak 0 76 6 ra s.1.length rc (s.1.flatMap Ck),pmC iV fb (flL A s.2),Ah cf 65 [π (A.ad 0),.map (some ob)],Av F A,AM KO ob A.C (opG F A),Ch.many R]) rfl fun _ w16 h64 s19 _=>?_
   refine hK24 _ _ (s19.pk [1,2,3,4,5,6,7] rfl) fun hq17=>h64.sk [4,0,1,2] rfl fun h65=>?_
   refine wpAnyH_done κ ?_ _
   exact hJ13  _ _ (h65.subs rfl) s19 
 ·skip
  refine Br h53 rfl rfl rfl (v:=σ ((F.at k).data)) (w':=w7.drew) ((rld h53 rfl rfl (NdP.c2 (F:=FsM.nE F) (A:=AdM.nC A) (k:=k) (s15.get 5 rfl:NdP _ _ _) (show k<F.N.length from ω) υ9 rfl))) fun _ h66=>hK19 _ _ (s15.pk [1,2,3,4,5,6,7] rfl) fun hq18=>?_
  refine to_ 5 rfl (wn rfl) κ fun _ hK25=>Br h66 rfl rfl rfl (v:=ν ((ix+1:Nat):Int)) (w':=w7.drew) ((Ds h66 rfl rfl rfl (Kb (s15.get 3 rfl:PMap _ _ _ _) (s15.get 5 rfl:NdP _ _ _) hMk hkl hm hix))) fun _ h67=>hK25 _ _ (s15.pk [1,2,3,4,5,6,7] rfl) fun hq19=>?_
  refine tv1 hq19 h67 10 rfl rfl (v:=.pointer (some ⟨g4,4,none⟩)) (fun w1 _=>(rfa h67 rfl rfl (fun w=>Fs g4 0 w)) w1) fun _ h68=>?_
  refine to_ 11 rfl (wn rfl) κ fun _ hK26=>CQ h68 rfl rfl s15 0 rfl rfl rfl [ν ((ix+1:Nat):Int)] rfl κ rfl (by show 4+1≤6;decide) (L':=[ν r.dp,.string r.nm,ν r.cl,ν r.fd,ν ((ix+1:Nat):Int),σ r.dt]) rfl (cs':=[Ah g4 76 [ν r.dp,.string r.nm,ν r.cl,ν r.fd,ν ((ix+1:Nat):Int),σ r.dt],Ah sg 101 [.slice ra s.1.length rc,.map (some fb)],Ak 0 76 6 ra s.1.length rc (s.1.flatMap Ck),pmC iV fb (flL A s.2),Ah cf 65 [π (A.ad 0),.map (some ob)],Av F A,AM KO ob A.C (opG F A),Ch.many R]) rfl fun _ w17 h69 s20 _=>?_
  refine hK26 _ _ (s20.pk [1,2,3,4,5,6,7] rfl) fun hq20=>?_
  refine tv1 hq20 h69 12 rfl rfl (v:=.pointer (some ⟨g4,5,none⟩)) (fun w1 _=>(rfa h69 rfl rfl (fun w=>Eg g4 0 w)) w1) fun _ h70=>?_
  refine to_ 13 rfl (wn rfl) κ fun _ hK27=>CQ h70 rfl rfl s20 0 rfl rfl rfl [σ ((F.at k).data)] rfl κ rfl (by show 5+1≤6;decide) (L':=[ν r.dp,.string r.nm,ν r.cl,ν r.fd,ν ((ix+1:Nat):Int),σ ((F.at k).data)]) rfl (cs':=[Ah g4 76 [ν r.dp,.string r.nm,ν r.cl,ν r.fd,ν ((ix+1:Nat):Int),σ ((F.at k).data)],Ah sg 101 [.slice ra s.1.length rc,.map (some fb)],Ak 0 76 6 ra s.1.length rc (s.1.flatMap Ck),pmC iV fb (flL A s.2),Ah cf 65 [π (A.ad 0),.map (some ob)],Av F A,AM KO ob A.C (opG F A),Ch.many R]) rfl fun _ w18 h71 s21 _=>?_
  refine hK27 _ _ (s21.pk [1,2,3,4,5,6,7] rfl) fun hq21=>h71.sk [4,0,1,2] rfl fun h72=>?_
  refine wpAnyH_done κ ?_ _
  exact hJ13  _ _ (h72.subs rfl) s21 
theorem PR {w:World} {cf ob:Nat} {F:FsM} {A:AdM} {R:List Ch} {δ:Nat→Int} {sg fb:Nat} {ra:Option Addr} {rc:Nat} {s:Rows} {r:RowM} {k:Nat} (hS0:Sep w ([Ah sg 101 [.slice ra s.1.length rc,.map (some fb)],Ak 0 76 6 ra s.1.length rc (s.1.flatMap Ck),pmC iV fb (flL A s.2),Ah cf 65 [π (A.ad 0),.map (some ob)],Av F A,AM KO ob A.C (opG F A)]++R)) (hok:FsC F δ) (hz:SmF F) (hkl:k<F.N.length) (hMk:MkOk F s.2) (hd:F.dir k=false) (hm:¬ k∈s.2) (hr:s.1.length≤4000) :
  CallsR Tryz.prog 60 #[π sg,.agg #[ν r.dp,.string r.nm,ν r.cl,ν r.fd,ν r.fl,σ r.dt],π (A.ad k)] w (fun v w'=>∃ ra' rc',v=.tuple #[]∧Sep w' ([Ah sg 101 [.slice ra' ((Di F r k s).1.length) rc',.map (some fb)],Ak 0 76 6 ra' ((Di F r k s).1).length rc' (((Di F r k s).1).flatMap Ck),pmC iV fb (flL A (Di F r k s).2),Ah cf 65 [π (A.ad 0),.map (some ob)],Av F A,AM KO ob A.C (opG F A)]++R)):=by
 have hS:Sep w [Ah sg 101 [.slice ra s.1.length rc,.map (some fb)],Ak 0 76 6 ra s.1.length rc (s.1.flatMap Ck),pmC iV fb (flL A s.2),Ah cf 65 [π (A.ad 0),.map (some ob)],Av F A,AM KO ob A.C (opG F A),Ch.many R]:=Sep.tail_many (xs:=[_,_,_,_,_,_]) hS0;clear hS0
 have hz0:=hz;obtain ⟨hz1,hz2,hz3⟩:F.N.length≤1000∧F.E.length≤1000∧F.O.length≤1000:=hz
 have hMl:=hMk.len
 have hMk2:MkOk F (s.2++[k]):=by have z:=hMk.mark hkl;unfold Gi at z;rw [hd,if_neg (by decide),if_neg hm] at z;exact z
 have hm2:k∈s.2++[k]:=List.mem_append_right _ (List.mem_singleton.2 rfl)
 refine AB Tryz.func60 rfl (N:=74) Tryz.ntmps60 (by show 3≤74;decide) [(0,π sg),(1,.agg #[ν r.dp,.string r.nm,ν r.cl,ν r.fd,ν r.fl,σ r.dt]),(2,π (A.ad k))] rfl fun _ h1=>sqr fun _ hK3=>so (wn rfl) fun _ hK1=>Cv h1 rfl rfl rfl rfl rfl (z:=[ν r.dp,.string r.nm,ν r.cl,ν r.fd,ν r.fl,σ r.dt]) rfl hS fun _ g4 w7 h5 s8 _ _=>hK1 _ _ ?_
 refine wpList_nil<|hK3 _ _<|sq fun K1 hK2=>?_
 have hJ13:∀  a' w',Kn 74 [(4,π g4),(0,π sg),(1,.agg #[ν r.dp,.string r.nm,ν r.cl,ν r.fd,ν r.fl,σ r.dt]),(2,π (A.ad k))] a'→Sep w' [Ah g4 76 [ν r.dp,.string r.nm,ν r.cl,ν r.fd,ν ((s.2.length+1:Nat):Int),σ ((F.at k).data)],Ah sg 101 [.slice ra s.1.length rc,.map (some fb)],Ak 0 76 6 ra s.1.length rc (s.1.flatMap Ck),pmC iV fb (flL A (s.2++[k])),Ah cf 65 [π (A.ad 0),.map (some ob)],Av F A,AM KO ob A.C (opG F A),Ch.many R]→K1 a' w':=by
  intro a1 w2 h2 s1
  refine hK2 _ _ ?_
  refine sq fun K2 hK4=>?_
  have hJ19:∀ (p5:Option Addr) (c5:Nat) a' w',Kn 74 [(4,π g4),(0,π sg),(1,.agg #[ν r.dp,.string r.nm,ν r.cl,ν r.fd,ν r.fl,σ r.dt]),(2,π (A.ad k))] a'→Sep w' [Ah g4 76 [ν r.dp,.string r.nm,ν r.cl,ν r.fd,ν ((s.2.length+1:Nat):Int),σ ((F.at k).data)],Ah sg 101 [.slice p5 ((s.1++[(⟨r.dp,r.nm,r.cl,r.fd,((s.2.length+1:Nat):Int),(F.at k).data⟩:RowM)]).length) c5,.map (some fb)],Ak 0 76 6 p5 (s.1++[(⟨r.dp,r.nm,r.cl,r.fd,((s.2.length+1:Nat):Int),(F.at k).data⟩:RowM)]).length c5 ((s.1++[(⟨r.dp,r.nm,r.cl,r.fd,((s.2.length+1:Nat):Int),(F.at k).data⟩:RowM)]).flatMap Ck),pmC iV fb (flL A (s.2++[k])),Ah cf 65 [π (A.ad 0),.map (some ob)],Av F A,AM KO ob A.C (opG F A),Ch.many R]→K2 a' w':=by
   intro p5 c5 a2 w3 h3 s2
   refine hK4 _ _ ?_
   refine sqr fun _ hK5=>mv h3 rfl fun _ h4=>cl h4 rfl Dg (LF (cf:=cf) (A:=A) (F:=F) (s2.pk [4,5,6,0,1,2,3,7] rfl) hok hz0 hkl hd) fun _ v1 w4 r1 h6=>?_
   obtain ⟨rfl,s3⟩:=r1
   refine sv1 h6 rfl (v:=ν 0) (CR h6 rfl rfl υ33) fun _ h7=>mv h7 rfl fun _ h8=>h8.sn [56,55,54,4,0,1,2] rfl fun h9=>hK5 _ _<|wp_block ?_
   refine DC (fun (z:Nat) a' w'=>Kn 74 [(56,ν 0),(55,ν 0),(54,.slice none 0 0),(4,π g4),(0,π sg),(1,.agg #[ν r.dp,.string r.nm,ν r.cl,ν r.fd,ν r.fl,σ r.dt]),(2,π (A.ad k))] a'∧Sep w' [Ah cf 65 [π (A.ad 0),.map (some ob)],Av F A,AM KO ob A.C (opG F A),Ah g4 76 [ν r.dp,.string r.nm,ν r.cl,ν r.fd,ν ((s.2.length+1:Nat):Int),σ ((F.at k).data)],Ah sg 101 [.slice p5 ((s.1++[(⟨r.dp,r.nm,r.cl,r.fd,((s.2.length+1:Nat):Int),(F.at k).data⟩:RowM)]).length) c5,.map (some fb)],Ak 0 76 6 p5 (s.1++[(⟨r.dp,r.nm,r.cl,r.fd,((s.2.length+1:Nat):Int),(F.at k).data⟩:RowM)]).length c5 ((s.1++[(⟨r.dp,r.nm,r.cl,r.fd,((s.2.length+1:Nat):Int),(F.at k).data⟩:RowM)]).flatMap Ck),pmC iV fb (flL A (s.2++[k])),Ch.many R]) (fun (z:Nat)=>0) 0 ⟨h9.subs rfl,s3⟩ ?_
   rintro z44 a3 w5 ⟨h10,s4⟩ K3 hK6
   refine sqr fun _ hK7=>bv h10 rfl (cLt _ _ _ _ rfl) fun _ h11=>wpList_nil<|hK7 _ _<|sq fun _ hK8=>wcF h11 rfl rfl<|h11.sk [56,55,54,4,0,1,2] rfl fun h12=>wp_exit ?_
   simp only [Exit.then,Exit.inBlock,↓reduceIte,Nat.reduceEqDiff]
   refine Nj (v:=.tuple #[]) (fun _=>NI rfl _) h12.defs ?_
   rw [OY hd r s hm]
   exact ⟨_,_,rfl,Sep.tail_un (xs:=[_,_,_,_,_,_]) (s4.pk [4,5,6,0,1,2,7] rfl)⟩
  have s5:=s1.drew
  refine wp_region_held_drew (S:=fun w'=>Sep w' [Ah g4 76 [ν r.dp,.string r.nm,ν r.cl,ν r.fd,ν ((s.2.length+1:Nat):Int),σ ((F.at k).data)],pmC iV fb (flL A (s.2++[k])),Ah cf 65 [π (A.ad 0),.map (some ob)],Av F A,AM KO ob A.C (opG F A),Ch.many R]) κ (s5.pk [0,3,4,5,6,7] rfl) (fun hq1=>?_)
  refine tv1 hq1 h2 0 rfl rfl (v:=π sg) (fun w1 _=>(Ap h2 rfl rfl) w1) fun _ h13=>?_
  refine tv1 hq1 h13 1 rfl rfl (v:=π sg) (fun w1 _=>(Ap h13 rfl rfl) w1) fun _ h14=>?_
  refine tv1 hq1 h14 2 rfl rfl (v:=π sg) (fun w1 _=>(Cu h14 rfl rfl) w1) fun _ h15=>?_
  refine tv1 hq1 h15 3 rfl rfl (v:=π sg) (fun w1 _=>(rfa h15 rfl rfl (fun w=>DO sg 0 w)) w1) fun _ h16=>?_
  refine tv1 hq1 h16 5 rfl rfl (v:=.agg #[ν r.dp,.string r.nm,ν r.cl,ν r.fd,ν ((s.2.length+1:Nat):Int),σ ((F.at k).data)]) (fun w1 hSw=>(rld h16 rfl rfl (ldA υ76 rfl (n:=6) κ (hSw.get 0 rfl:Blk _ _ _ _) rfl rfl))) fun _ h17=>?_
  refine wpAnyH_ready (rs:=[4,6]) κ (by simp) (toc rfl (wn rfl) (fun K4 hK9=>?_) (toc rfl (wn rfl) (fun K4 hK9=>?_) AllReadyH.nil))
  ·skip
   refine Br h17 rfl rfl rfl (v:=.slice ra s.1.length rc) (w':=w2.drew) ((rld h17 rfl rfl (ldB υ74 rfl (s5.get 1 rfl:Blk _ _ _ _) rfl))) fun _ h18=>hK9 _ _ (s5.pk [0,3,4,5,6,7] rfl) fun hq2=>?_
   refine to_ 6 rfl (wn rfl) κ fun _ hK10=>CY h18 rfl rfl rfl (E:=76) (xs:=[(0,.tmp 48)]) rfl (vs:=[(0,.agg #[ν r.dp,.string r.nm,ν r.cl,ν r.fd,ν ((s.2.length+1:Nat):Int),σ ((F.at k).data)])]) rfl (z:=[ν r.dp,.string r.nm,ν r.cl,ν r.fd,ν ((s.2.length+1:Nat):Int),σ ((F.at k).data)]) (fun _=>κ) s5 fun _ g1 w6 h19 s6 _ _=>?_
   refine hK10 _ _ (s6.pk [1,4,5,6,7,8] rfl) fun hq3=>?_
   refine to_ 7 rfl (wn rfl) κ fun _ hK11=>EI Ff h19 rfl rfl rfl rfl ERw s6 3 rfl rfl 0 (y:=(⟨r.dp,r.nm,r.cl,r.fd,((s.2.length+1:Nat):Int),(F.at k).data⟩:RowM)) rfl rfl rfl (by decide) ω (L':=s.1++[(⟨r.dp,r.nm,r.cl,r.fd,((s.2.length+1:Nat):Int),(F.at k).data⟩:RowM)]) rfl fun _ p76 c77 w8 h20 s7=>?_
   have s9:=s7.pk [1,2,3,4,5,6,7,8] rfl;clear s7
   refine hK11 _ _ (s9.pk [0,3,4,5,6,7] rfl) fun hq4=>?_
   refine tv1 hq4 h20 8 rfl rfl (v:=π sg) (fun w1 _=>(Cu h20 rfl rfl) w1) fun _ h21=>?_
   refine tv1 hq4 h21 9 rfl rfl (v:=π sg) (fun w1 _=>(rfa h21 rfl rfl (fun w=>DO sg 0 w)) w1) fun _ h22=>?_
   refine to_ 10 rfl (wn rfl) κ fun _ hK12=>CQ h22 rfl rfl s9 1 rfl rfl rfl [.slice p76 ((s.1++[(⟨r.dp,r.nm,r.cl,r.fd,((s.2.length+1:Nat):Int),(F.at k).data⟩:RowM)]).length) c77] rfl κ rfl (by show 0+1≤2;decide) (L':=[.slice p76 ((s.1++[(⟨r.dp,r.nm,r.cl,r.fd,((s.2.length+1:Nat):Int),(F.at k).data⟩:RowM)]).length) c77,.map (some fb)]) rfl (cs':=[Ah g4 76 [ν r.dp,.string r.nm,ν r.cl,ν r.fd,ν ((s.2.length+1:Nat):Int),σ ((F.at k).data)],Ah sg 101 [.slice p76 ((s.1++[(⟨r.dp,r.nm,r.cl,r.fd,((s.2.length+1:Nat):Int),(F.at k).data⟩:RowM)]).length) c77,.map (some fb)],Ak 0 76 6 p76 (s.1++[(⟨r.dp,r.nm,r.cl,r.fd,((s.2.length+1:Nat):Int),(F.at k).data⟩:RowM)]).length c77 ((s.1++[(⟨r.dp,r.nm,r.cl,r.fd,((s.2.length+1:Nat):Int),(F.at k).data⟩:RowM)]).flatMap Ck),pmC iV fb (flL A (s.2++[k])),Ah cf 65 [π (A.ad 0),.map (some ob)],Av F A,AM KO ob A.C (opG F A),Ch.many R]) rfl fun _ w9 h23 s10 _=>?_
   refine hK12 _ _ (s10.pk [0,3,4,5,6,7] rfl) fun hq5=>h23.sk [4,0,1,2] rfl fun h24=>?_
   refine wpAnyH_done κ ?_ _
   exact hJ19 p76 c77 _ _ (h24.subs rfl) s10 
  ·skip
   refine CY h17 rfl rfl rfl (E:=76) (xs:=[(0,.tmp 48)]) rfl (vs:=[(0,.agg #[ν r.dp,.string r.nm,ν r.cl,ν r.fd,ν ((s.2.length+1:Nat):Int),σ ((F.at k).data)])]) rfl (z:=[ν r.dp,.string r.nm,ν r.cl,ν r.fd,ν ((s.2.length+1:Nat):Int),σ ((F.at k).data)]) (fun _=>κ) s5 fun _ g2 w10 h25 s11 _ _=>hK9 _ _ (s11.pk [1,4,5,6,7,8] rfl) fun hq6=>?_
   refine to_ 4 rfl (wn rfl) κ fun _ hK13=>Br h25 rfl rfl rfl (v:=.slice ra s.1.length rc) (w':=w10) ((rld h25 rfl rfl (ldB υ74 rfl (s11.get 2 rfl:Blk _ _ _ _) rfl))) fun _ h26=>hK13 _ _ (s11.pk [1,4,5,6,7,8] rfl) fun hq7=>?_
   refine to_ 7 rfl (wn rfl) κ fun _ hK14=>EI Ff h26 rfl rfl rfl rfl ERw s11 3 rfl rfl 0 (y:=(⟨r.dp,r.nm,r.cl,r.fd,((s.2.length+1:Nat):Int),(F.at k).data⟩:RowM)) rfl rfl rfl (by decide) ω (L':=s.1++[(⟨r.dp,r.nm,r.cl,r.fd,((s.2.length+1:Nat):Int),(F.at k).data⟩:RowM)]) rfl fun _ p109 c110 w11 h27 s12=>?_
   have s13:=s12.pk [1,2,3,4,5,6,7,8] rfl;clear s12
   refine hK14 _ _ (s13.pk [0,3,4,5,6,7] rfl) fun hq8=>?_
   refine tv1 hq8 h27 8 rfl rfl (v:=π sg) (fun w1 _=>(Cu h27 rfl rfl) w1) fun _ h28=>?_
   refine tv1 hq8 h28 9 rfl rfl (v:=π sg) (fun w1 _=>(rfa h28 rfl rfl (fun w=>DO sg 0 w)) w1) fun _ h29=>?_
   refine to_ 10 rfl (wn rfl) κ fun _ hK15=>CQ h29 rfl rfl s13 1 rfl rfl rfl [.slice p109 ((s.1++[(⟨r.dp,r.nm,r.cl,r.fd,((s.2.length+1:Nat):Int),(F.at k).data⟩:RowM)]).length) c110] rfl κ rfl (by show 0+1≤2;decide) (L':=[.slice p109 ((s.1++[(⟨r.dp,r.nm,r.cl,r.fd,((s.2.length+1:Nat):Int),(F.at k).data⟩:RowM)]).length) c110,.map (some fb)]) rfl (cs':=[Ah g4 76 [ν r.dp,.string r.nm,ν r.cl,ν r.fd,ν ((s.2.length+1:Nat):Int),σ ((F.at k).data)],Ah sg 101 [.slice p109 ((s.1++[(⟨r.dp,r.nm,r.cl,r.fd,((s.2.length+1:Nat):Int),(F.at k).data⟩:RowM)]).length) c110,.map (some fb)],Ak 0 76 6 p109 (s.1++[(⟨r.dp,r.nm,r.cl,r.fd,((s.2.length+1:Nat):Int),(F.at k).data⟩:RowM)]).length c110 ((s.1++[(⟨r.dp,r.nm,r.cl,r.fd,((s.2.length+1:Nat):Int),(F.at k).data⟩:RowM)]).flatMap Ck),pmC iV fb (flL A (s.2++[k])),Ah cf 65 [π (A.ad 0),.map (some ob)],Av F A,AM KO ob A.C (opG F A),Ch.many R]) rfl fun _ w12 h30 s14 _=>?_
   refine hK15 _ _ (s14.pk [0,3,4,5,6,7] rfl) fun hq9=>h30.sk [4,0,1,2] rfl fun h31=>?_
   refine wpAnyH_done κ ?_ _
   exact hJ19 p109 c110 _ _ (h31.subs rfl) s14 
 refine sqr fun _ hK16=>mvs 2 h5 rfl fun _ h32=>sv1 h32 rfl (v:=π (A.ad k)) (rfa h32 rfl rfl (fun w=>Ay (A.ad k) 0 w)) fun _ h33=>sw1 h33 rfl (v:=ν (AP (F.dir k))) (rld h33 rfl rfl (NdP.c0 (F:=FsM.nE F) (A:=AdM.nC A) (k:=k) (s8.get 5 rfl:NdP _ _ _) (show k<F.N.length from ω) υ3 rfl)) fun _ h34=>bv h34 (z:=.bool (!(F.dir k))) rfl (cEq _ _ _ _ (Kh _)) fun _ h35=>h35.sn [12,4,0,1,2] rfl fun h36=>hK16 _ _<|wcT h36 rfl (BC hd)<|h36.sk [4,0,1,2] rfl fun h37=>sq fun _ hK17=>sq fun _ hK18=>wp_region_lit ?_
 refine mvs 2 h37 rfl fun _ h38=>fav h38 rfl (Dh _ _) fun _ h39=>ldv h39 s8 1 υ99 rfl rfl rfl rfl fun _ h40=>mv h40 rfl fun _ h41=>sw1 h41 rfl (v:=ν 0) (Ds h41 rfl rfl rfl (Tl (s8.get 3 rfl:PMap _ _ _ _) (s8.get 5 rfl:NdP _ _ _) hMk hkl hm)) fun _ h42=>bv h42 rfl (cEq _ _ _ _ rfl) fun _ h43=>h43.sn [19,4,0,1,2] rfl fun h44=>hK18 _ _<|wcT h44 rfl rfl<|h44.sk [4,0,1,2] rfl fun h45=>?_
 have s15:=s8.drew
 refine wp_region_held_drew (S:=fun w'=>Sep w' [Ah g4 76 [ν r.dp,.string r.nm,ν r.cl,ν r.fd,ν r.fl,σ r.dt],Ah sg 101 [.slice ra s.1.length rc,.map (some fb)],Ak 0 76 6 ra s.1.length rc (s.1.flatMap Ck),Ah cf 65 [π (A.ad 0),.map (some ob)],Av F A,AM KO ob A.C (opG F A),Ch.many R]) κ (s15.pk [0,1,2,4,5,6,7] rfl) (fun hq10=>?_)
 refine tv1 hq10 h45 0 rfl rfl (v:=π sg) (fun w1 _=>(Ap h45 rfl rfl) w1) fun _ h46=>?_
 refine tv1 hq10 h46 1 rfl rfl (v:=π sg) (fun w1 _=>(Cu h46 rfl rfl) w1) fun _ h47=>?_
 refine tv1 hq10 h47 2 rfl rfl (v:=.pointer (some ⟨sg,1,none⟩)) (fun w1 _=>(rfa h47 rfl rfl (fun w=>Dh sg 0 w)) w1) fun _ h48=>?_
 refine tv1 hq10 h48 3 rfl rfl (v:=.map (some fb)) (fun w1 hSw=>(rld h48 rfl rfl (ldB υ99 rfl (hSw.get 1 rfl:Blk _ _ _ _) rfl))) fun _ h49=>?_
 refine tv1 hq10 h49 4 rfl rfl (v:=π (A.ad k)) (fun w1 _=>(Ap h49 rfl rfl) w1) fun _ h50=>?_
 refine tv1 hq10 h50 5 rfl rfl (v:=π sg) (fun w1 _=>(Ap h50 rfl rfl) w1) fun _ h51=>?_
 refine tv1 hq10 h51 6 rfl rfl (v:=π sg) (fun w1 _=>(Cu h51 rfl rfl) w1) fun _ h52=>?_
 refine tv1 hq10 h52 7 rfl rfl (v:=.pointer (some ⟨sg,1,none⟩)) (fun w1 _=>(rfa h52 rfl rfl (fun w=>Dh sg 0 w)) w1) fun _ h53=>?_
 refine tv1 hq10 h53 8 rfl rfl (v:=.map (some fb)) (fun w1 hSw=>(rld h53 rfl rfl (ldB υ99 rfl (hSw.get 1 rfl:Blk _ _ _ _) rfl))) fun _ h54=>?_
 refine to_ 9 rfl (wn rfl) κ fun _ hK19=>Br h54 rfl rfl rfl (v:=ν (s.2.length:Int)) (w':=w7.drew) ((Tz h54 rfl rfl (s15.get 3 rfl:PMap _ _ _ _) υ99 (by unfold flL;rw [List.length_map,List.length_range]))) fun _ h55=>hK19 _ _ (s15.pk [0,1,2,4,5,6,7] rfl) fun hq11=>?_
 refine tv1 hq11 h55 10 rfl rfl (v:=ν ((s.2.length+1:Nat):Int)) (fun w1 _=>(BG h55 rfl rfl rfl (Dx _ _ _ ω ω ω)) w1) fun _ h56=>?_
 refine to_ 11 rfl (wn rfl) κ fun _ hK20=>Rv (av:=iV) (b:=fb) (g:=A.ad k) (u:=((s.2.length+1:Nat):Int)) h56 rfl rfl s15 3 rfl rfl rfl rfl υ99 υ62 (NdP.tellsV (s15.get 5 rfl:NdP _ _ _) hMk hkl) (Oi (s15.get 5 rfl:NdP _ _ _) hMk hkl hm) (cs':=[Ah g4 76 [ν r.dp,.string r.nm,ν r.cl,ν r.fd,ν r.fl,σ r.dt],Ah sg 101 [.slice ra s.1.length rc,.map (some fb)],Ak 0 76 6 ra s.1.length rc (s.1.flatMap Ck),pmC iV fb (flL A (s.2++[k])),Ah cf 65 [π (A.ad 0),.map (some ob)],Av F A,AM KO ob A.C (opG F A),Ch.many R]) (by rw [← RK];rfl) fun _ w13 h57 s16=>?_
 refine hK20 _ _ (s16.pk [0,1,2,4,5,6,7] rfl) fun hq12=>h57.sk [4,0,1,2] rfl fun h58=>?_
 refine wpAnyH_done κ ?_ _
 refine hK17 _ _ ?_
 have s17:=s16.drew
 refine wp_region_held_drew (S:=fun w'=>Sep w' [Ah sg 101 [.slice ra s.1.length rc,.map (some fb)],Ak 0 76 6 ra s.1.length rc (s.1.flatMap Ck),pmC iV fb (flL A (s.2++[k])),Ah cf 65 [π (A.ad 0),.map (some ob)],Av F A,AM KO ob A.C (opG F A),Ch.many R]) κ (s17.pk [1,2,3,4,5,6,7] rfl) (fun hq13=>?_)
 refine tv1 hq13 h58 0 rfl rfl (v:=π sg) (fun w1 _=>(Ap h58 rfl rfl) w1) fun _ h59=>?_
 refine tv1 hq13 h59 1 rfl rfl (v:=π sg) (fun w1 _=>(Cu h59 rfl rfl) w1) fun _ h60=>?_
 refine tv1 hq13 h60 2 rfl rfl (v:=.pointer (some ⟨sg,1,none⟩)) (fun w1 _=>(rfa h60 rfl rfl (fun w=>Dh sg 0 w)) w1) fun _ h61=>?_
 refine tv1 hq13 h61 3 rfl rfl (v:=.map (some fb)) (fun w1 hSw=>(rld h61 rfl rfl (ldB υ99 rfl (hSw.get 0 rfl:Blk _ _ _ _) rfl))) fun _ h62=>?_
 refine tv1 hq13 h62 4 rfl rfl (v:=π (A.ad k)) (fun w1 _=>(Ap h62 rfl rfl) w1) fun _ h63=>?_
 refine tv1 hq13 h63 6 rfl rfl (v:=π (A.ad k)) (fun w1 _=>(Ap h63 rfl rfl) w1) fun _ h64=>?_
 refine tv1 hq13 h64 7 rfl rfl (v:=π (A.ad k)) (fun w1 _=>(Cu h64 rfl rfl) w1) fun _ h65=>?_
 refine tv1 hq13 h65 8 rfl rfl (v:=.pointer (some ⟨(A.ad k),2,none⟩)) (fun w1 _=>(rfa h65 rfl rfl (fun w=>Bl (A.ad k) 0 w)) w1) fun _ h66=>?_
 refine wpAnyH_ready (rs:=[5,9]) κ (by simp) (toc rfl (wn rfl) (fun K5 hK21=>?_) (toc rfl (wn rfl) (fun K5 hK21=>?_) AllReadyH.nil))
 ·skip
  refine Br h66 rfl rfl rfl (v:=ν ((s.2.length+1:Nat):Int)) (w':=w13.drew) ((Ds h66 rfl rfl rfl (Kb (s17.get 3 rfl:PMap _ _ _ _) (s17.get 5 rfl:NdP _ _ _) hMk2 hkl hm2 (Kf hm)))) fun _ h67=>hK21 _ _ (s17.pk [1,2,3,4,5,6,7] rfl) fun hq14=>?_
  refine tv1 hq14 h67 10 rfl rfl (v:=.pointer (some ⟨g4,4,none⟩)) (fun w1 _=>(rfa h67 rfl rfl (fun w=>Fu g4 0 w)) w1) fun _ h68=>?_
  refine wpAnyH_ready (rs:=[9,11]) κ (by simp) (toc rfl (wn rfl) (fun K6 hK22=>?_) (toc rfl (wn rfl) (fun K6 hK22=>?_) AllReadyH.nil))
  ·skip
   refine Br h68 rfl rfl rfl (v:=σ ((F.at k).data)) (w':=w13.drew) ((rld h68 rfl rfl (NdP.c2 (F:=FsM.nE F) (A:=AdM.nC A) (k:=k) (s17.get 5 rfl:NdP _ _ _) (show k<F.N.length from ω) υ9 rfl))) fun _ h69=>hK22 _ _ (s17.pk [1,2,3,4,5,6,7] rfl) fun hq15=>?_
   refine to_ 11 rfl (wn rfl) κ fun _ hK23=>CQ h69 rfl rfl s17 0 rfl rfl rfl [ν ((s.2.length+1:Nat):Int)] rfl κ rfl (by show 4+1≤6;decide) (L':=[ν r.dp,.string r.nm,ν r.cl,ν r.fd,ν ((s.2.length+1:Nat):Int),σ r.dt]) rfl (cs':=[Ah g4 76 [ν r.dp,.string r.nm,ν r.cl,ν r.fd,ν ((s.2.length+1:Nat):Int),σ r.dt],Ah sg 101 [.slice ra s.1.length rc,.map (some fb)],Ak 0 76 6 ra s.1.length rc (s.1.flatMap Ck),pmC iV fb (flL A (s.2++[k])),Ah cf 65 [π (A.ad 0),.map (some ob)],Av F A,AM KO ob A.C (opG F A),Ch.many R]) rfl fun _ w14 h70 s18 _=>?_
   refine hK23 _ _ (s18.pk [1,2,3,4,5,6,7] rfl) fun hq16=>?_
   refine tv1 hq16 h70 12 rfl rfl (v:=.pointer (some ⟨g4,5,none⟩)) (fun w1 _=>(rfa h70 rfl rfl (fun w=>Eh g4 0 w)) w1) fun _ h71=>?_
   refine to_ 13 rfl (wn rfl) κ fun _ hK24=>CQ h71 rfl rfl s18 0 rfl rfl rfl [σ ((F.at k).data)] rfl κ rfl (by show 5+1≤6;decide) (L':=[ν r.dp,.string r.nm,ν r.cl,ν r.fd,ν ((s.2.length+1:Nat):Int),σ ((F.at k).data)]) rfl (cs':=[Ah g4 76 [ν r.dp,.string r.nm,ν r.cl,ν r.fd,ν ((s.2.length+1:Nat):Int),σ ((F.at k).data)],Ah sg 101 [.slice ra s.1.length rc,.map (some fb)],Ak 0 76 6 ra s.1.length rc (s.1.flatMap Ck),pmC iV fb (flL A (s.2++[k])),Ah cf 65 [π (A.ad 0),.map (some ob)],Av F A,AM KO ob A.C (opG F A),Ch.many R]) rfl fun _ w15 h72 s19 _=>?_
   refine hK24 _ _ (s19.pk [1,2,3,4,5,6,7] rfl) fun hq17=>h72.sk [4,0,1,2] rfl fun h73=>?_
   refine wpAnyH_done κ ?_ _
   exact hJ13  _ _ (h73.subs rfl) s19 
  ·skip
   refine CQ h68 rfl rfl s17 0 rfl rfl rfl [ν ((s.2.length+1:Nat):Int)] rfl κ rfl (by show 4+1≤6;decide) (L':=[ν r.dp,.string r.nm,ν r.cl,ν r.fd,ν ((s.2.length+1:Nat):Int),σ r.dt]) rfl (cs':=[Ah g4 76 [ν r.dp,.string r.nm,ν r.cl,ν r.fd,ν ((s.2.length+1:Nat):Int),σ r.dt],Ah sg 101 [.slice ra s.1.length rc,.map (some fb)],Ak 0 76 6 ra s.1.length rc (s.1.flatMap Ck),pmC iV fb (flL A (s.2++[k])),Ah cf 65 [π (A.ad 0),.map (some ob)],Av F A,AM KO ob A.C (opG F A),Ch.many R]) rfl fun _ w16 h74 s20 _=>hK22 _ _ (s20.pk [1,2,3,4,5,6,7] rfl) fun hq18=>?_
   refine to_ 9 rfl (wn rfl) κ fun _ hK25=>Br h74 rfl rfl rfl (v:=σ ((F.at k).data)) (w':=w16) ((rld h74 rfl rfl (NdP.c2 (F:=FsM.nE F) (A:=AdM.nC A) (k:=k) (s20.get 5 rfl:NdP _ _ _) (show k<F.N.length from ω) υ9 rfl))) fun _ h75=>hK25 _ _ (s20.pk [1,2,3,4,5,6,7] rfl) fun hq19=>?_
   refine tv1 hq19 h75 12 rfl rfl (v:=.pointer (some ⟨g4,5,none⟩)) (fun w1 _=>(rfa h75 rfl rfl (fun w=>Eh g4 0 w)) w1) fun _ h76=>?_
   refine to_ 13 rfl (wn rfl) κ fun _ hK26=>CQ h76 rfl rfl s20 0 rfl rfl rfl [σ ((F.at k).data)] rfl κ rfl (by show 5+1≤6;decide) (L':=[ν r.dp,.string r.nm,ν r.cl,ν r.fd,ν ((s.2.length+1:Nat):Int),σ ((F.at k).data)]) rfl (cs':=[Ah g4 76 [ν r.dp,.string r.nm,ν r.cl,ν r.fd,ν ((s.2.length+1:Nat):Int),σ ((F.at k).data)],Ah sg 101 [.slice ra s.1.length rc,.map (some fb)],Ak 0 76 6 ra s.1.length rc (s.1.flatMap Ck),pmC iV fb (flL A (s.2++[k])),Ah cf 65 [π (A.ad 0),.map (some ob)],Av F A,AM KO ob A.C (opG F A),Ch.many R]) rfl fun _ w17 h77 s21 _=>?_
   refine hK26 _ _ (s21.pk [1,2,3,4,5,6,7] rfl) fun hq20=>h77.sk [4,0,1,2] rfl fun h78=>?_
   refine wpAnyH_done κ ?_ _
   exact hJ13  _ _ (h78.subs rfl) s21 
 ·skip
  refine Br h66 rfl rfl rfl (v:=σ ((F.at k).data)) (w':=w13.drew) ((rld h66 rfl rfl (NdP.c2 (F:=FsM.nE F) (A:=AdM.nC A) (k:=k) (s17.get 5 rfl:NdP _ _ _) (show k<F.N.length from ω) υ9 rfl))) fun _ h79=>hK21 _ _ (s17.pk [1,2,3,4,5,6,7] rfl) fun hq21=>?_
  refine to_ 5 rfl (wn rfl) κ fun _ hK27=>Br h79 rfl rfl rfl (v:=ν ((s.2.length+1:Nat):Int)) (w':=w13.drew) ((Ds h79 rfl rfl rfl (Kb (s17.get 3 rfl:PMap _ _ _ _) (s17.get 5 rfl:NdP _ _ _) hMk2 hkl hm2 (Kf hm)))) fun _ h80=>hK27 _ _ (s17.pk [1,2,3,4,5,6,7] rfl) fun hq22=>?_
  refine tv1 hq22 h80 10 rfl rfl (v:=.pointer (some ⟨g4,4,none⟩)) (fun w1 _=>(rfa h80 rfl rfl (fun w=>Fu g4 0 w)) w1) fun _ h81=>?_
  refine to_ 11 rfl (wn rfl) κ fun _ hK28=>CQ h81 rfl rfl s17 0 rfl rfl rfl [ν ((s.2.length+1:Nat):Int)] rfl κ rfl (by show 4+1≤6;decide) (L':=[ν r.dp,.string r.nm,ν r.cl,ν r.fd,ν ((s.2.length+1:Nat):Int),σ r.dt]) rfl (cs':=[Ah g4 76 [ν r.dp,.string r.nm,ν r.cl,ν r.fd,ν ((s.2.length+1:Nat):Int),σ r.dt],Ah sg 101 [.slice ra s.1.length rc,.map (some fb)],Ak 0 76 6 ra s.1.length rc (s.1.flatMap Ck),pmC iV fb (flL A (s.2++[k])),Ah cf 65 [π (A.ad 0),.map (some ob)],Av F A,AM KO ob A.C (opG F A),Ch.many R]) rfl fun _ w18 h82 s22 _=>?_
  refine hK28 _ _ (s22.pk [1,2,3,4,5,6,7] rfl) fun hq23=>?_
  refine tv1 hq23 h82 12 rfl rfl (v:=.pointer (some ⟨g4,5,none⟩)) (fun w1 _=>(rfa h82 rfl rfl (fun w=>Eh g4 0 w)) w1) fun _ h83=>?_
  refine to_ 13 rfl (wn rfl) κ fun _ hK29=>CQ h83 rfl rfl s22 0 rfl rfl rfl [σ ((F.at k).data)] rfl κ rfl (by show 5+1≤6;decide) (L':=[ν r.dp,.string r.nm,ν r.cl,ν r.fd,ν ((s.2.length+1:Nat):Int),σ ((F.at k).data)]) rfl (cs':=[Ah g4 76 [ν r.dp,.string r.nm,ν r.cl,ν r.fd,ν ((s.2.length+1:Nat):Int),σ ((F.at k).data)],Ah sg 101 [.slice ra s.1.length rc,.map (some fb)],Ak 0 76 6 ra s.1.length rc (s.1.flatMap Ck),pmC iV fb (flL A (s.2++[k])),Ah cf 65 [π (A.ad 0),.map (some ob)],Av F A,AM KO ob A.C (opG F A),Ch.many R]) rfl fun _ w19 h84 s23 _=>?_
  refine hK29 _ _ (s23.pk [1,2,3,4,5,6,7] rfl) fun hq24=>h84.sk [4,0,1,2] rfl fun h85=>?_
  refine wpAnyH_done κ ?_ _
  exact hJ13  _ _ (h85.subs rfl) s23 
theorem Sx {w:World} {cf ob:Nat} {F:FsM} {A:AdM} {R:List Ch} {δ:Nat→Int} {sg fb:Nat} {ra:Option Addr} {rc:Nat} {s:Rows} {r:RowM} {k:Nat} (hS0:Sep w ([Ah sg 101 [.slice ra s.1.length rc,.map (some fb)],Ak 0 76 6 ra s.1.length rc (s.1.flatMap Ck),pmC iV fb (flL A s.2),Ah cf 65 [π (A.ad 0),.map (some ob)],Av F A,AM KO ob A.C (opG F A)]++R)) (hok:FsC F δ) (hz:SmF F) (hkl:k<F.N.length) (hMk:MkOk F s.2) {n:Nat} (hd:F.dir k=true) (hfu:Fuel F (n+1) k) (hB0:(DV F (n+1) r k s).1.length≤4000) (hr0:0≤r.dp) (hr1:r.dp+((n+1:Nat):Int)≤3000) (ih:∀ {w:World} {ra:Option Addr} {rc:Nat} {s:Rows} {r:RowM} {k:Nat} {R:List Ch},Fuel F n k→k<F.N.length→MkOk F s.2→(DV F n r k s).1.length≤4000→0≤r.dp→r.dp+(n:Int)≤3000→Sep w ([Ah sg 101 [.slice ra s.1.length rc,.map (some fb)],Ak 0 76 6 ra s.1.length rc (s.1.flatMap Ck),pmC iV fb (flL A s.2),Ah cf 65 [π (A.ad 0),.map (some ob)],Av F A,AM KO ob A.C (opG F A)]++R)→CallsR Tryz.prog 60 #[π sg,.agg #[ν r.dp,.string r.nm,ν r.cl,ν r.fd,ν r.fl,σ r.dt],π (A.ad k)] w (fun v w'=>∃ ra' rc',v=.tuple #[]∧Sep w' ([Ah sg 101 [.slice ra' ((DV F n r k s).1.length) rc',.map (some fb)],Ak 0 76 6 ra' ((DV F n r k s).1).length rc' (((DV F n r k s).1).flatMap Ck),pmC iV fb (flL A (DV F n r k s).2),Ah cf 65 [π (A.ad 0),.map (some ob)],Av F A,AM KO ob A.C (opG F A)]++R))) :
  CallsR Tryz.prog 60 #[π sg,.agg #[ν r.dp,.string r.nm,ν r.cl,ν r.fd,ν r.fl,σ r.dt],π (A.ad k)] w (fun v w'=>∃ ra' rc',v=.tuple #[]∧Sep w' ([Ah sg 101 [.slice ra' ((DV F (n+1) r k s).1.length) rc',.map (some fb)],Ak 0 76 6 ra' ((DV F (n+1) r k s).1).length rc' (((DV F (n+1) r k s).1).flatMap Ck),pmC iV fb (flL A (DV F (n+1) r k s).2),Ah cf 65 [π (A.ad 0),.map (some ob)],Av F A,AM KO ob A.C (opG F A)]++R)):=by
 have hS:Sep w [Ah sg 101 [.slice ra s.1.length rc,.map (some fb)],Ak 0 76 6 ra s.1.length rc (s.1.flatMap Ck),pmC iV fb (flL A s.2),Ah cf 65 [π (A.ad 0),.map (some ob)],Av F A,AM KO ob A.C (opG F A),Ch.many R]:=Sep.tail_many (xs:=[_,_,_,_,_,_]) hS0;clear hS0
 have hz0:=hz;obtain ⟨hz1,hz2,hz3⟩:F.N.length≤1000∧F.E.length≤1000∧F.O.length≤1000:=hz
 have hMl:=hMk.len
 obtain ⟨L,hL⟩:∃ L,AC (Al F.E k)=L:=⟨_,rfl⟩
 have hLl:L.length≤1000:=by rw [← hL,ET];exact Nat.le_trans (Fy _ _) hz2
 obtain ⟨t,ht0⟩:∃ t,t=Di F r k s:=⟨_,rfl⟩
 have hB:(addL F n r k L t).1.length≤4000:=by rw [EJ,← ht0,hL] at hB0;exact hB0
 have hMt:MkOk F t.2:=by rw [ht0];exact hMk.mark hkl
 have ht:t.1=s.1++[r]:=by rw [ht0,Lq hd]
 have ht2:t.2=s.2:=by rw [ht0,Lq hd]
 have htl:s.1.length+1=t.1.length:=by rw [ht];simp
 have htl2:=NZ F n r k L t
 have hr:s.1.length≤4000:=ω
 refine AB Tryz.func60 rfl (N:=74) Tryz.ntmps60 (by show 3≤74;decide) [(0,π sg),(1,.agg #[ν r.dp,.string r.nm,ν r.cl,ν r.fd,ν r.fl,σ r.dt]),(2,π (A.ad k))] rfl fun _ h1=>sqr fun _ hK3=>so (wn rfl) fun _ hK1=>Cv h1 rfl rfl rfl rfl rfl (z:=[ν r.dp,.string r.nm,ν r.cl,ν r.fd,ν r.fl,σ r.dt]) rfl hS fun _ g4 w7 h5 s8 _ _=>hK1 _ _ ?_
 refine wpList_nil<|hK3 _ _<|sq fun _ hK2=>sqr fun _ hK4=>mvs 2 h5 rfl fun _ h2=>sv1 h2 rfl (v:=π (A.ad k)) (rfa h2 rfl rfl (fun w=>Ay (A.ad k) 0 w)) fun _ h3=>sw1 h3 rfl (v:=ν (AP (F.dir k))) (rld h3 rfl rfl (NdP.c0 (F:=FsM.nE F) (A:=AdM.nC A) (k:=k) (s8.get 5 rfl:NdP _ _ _) (show k<F.N.length from ω) υ3 rfl)) fun _ h4=>bv h4 (z:=.bool (!(F.dir k))) rfl (cEq _ _ _ _ (Kh _)) fun _ h6=>h6.sn [12,4,0,1,2] rfl fun h7=>hK4 _ _<|wcF h7 rfl (Bq hd)<|h7.sk [4,0,1,2] rfl fun h8=>?_
 refine wp_skip<|hK2 _ _<|sq fun K1 hK5=>?_
 have hJ27:∀ (p5:Option Addr) (c5:Nat) a' w',Kn 74 [(4,π g4),(0,π sg),(1,.agg #[ν r.dp,.string r.nm,ν r.cl,ν r.fd,ν r.fl,σ r.dt]),(2,π (A.ad k))] a'→Sep w' [Ah g4 76 [ν r.dp,.string r.nm,ν r.cl,ν r.fd,ν r.fl,σ r.dt],Ah sg 101 [.slice p5 t.1.length c5,.map (some fb)],Ak 0 76 6 p5 t.1.length c5 (t.1.flatMap Ck),pmC iV fb (flL A s.2),Ah cf 65 [π (A.ad 0),.map (some ob)],Av F A,AM KO ob A.C (opG F A),Ch.many R]→K1 a' w':=by
  intro p5 c5 a1 w2 h9 s1
  refine hK5 _ _ ?_
  refine sqr fun _ hK6=>mv h9 rfl fun _ h10=>cl h10 rfl Dg ((by have z:=LE (cf:=cf) (A:=A) (F:=F) (s1.pk [4,5,6,0,1,2,3,7] rfl) hok hz0 hkl hd;rw [hL] at z;exact z)) fun _ v1 w3 r1 h11=>?_
  obtain ⟨sax35,scx36,rfl,s2⟩:=r1
  refine sv1 h11 rfl (v:=ν (L.length:Int)) (CR h11 rfl rfl υ33) fun _ h12=>mv h12 rfl fun _ h13=>h13.sn [56,55,54,4,0,1,2] rfl fun h14=>hK6 _ _<|wp_block ?_
  have s3:Sep w3 [Ak 0 9 1 sax35 L.length scx36 (L.flatMap sE),Ah g4 76 [ν r.dp,.string r.nm,ν r.cl,ν r.fd,ν r.fl,σ r.dt],Ah sg 101 [.slice p5 ((addL F n r k (L.take 0) t).1.length) c5,.map (some fb)],Ak 0 76 6 p5 ((addL F n r k (L.take 0) t).1).length c5 (((addL F n r k (L.take 0) t).1).flatMap Ck),pmC iV fb (flL A (addL F n r k (L.take 0) t).2),Ah cf 65 [π (A.ad 0),.map (some ob)],Av F A,AM KO ob A.C (opG F A),Ch.many R]:=by rw [List.take_zero,show addL F n r k [] t=t from rfl,ht2];exact (s2.pk [0,4,5,6,7,1,2,3,8] rfl)
  refine Ee (fun (j:Nat) (ra2:Option Addr) (rc2:Nat) a' w'=>Kn 74 [(56,ν (j:Int)),(55,ν (L.length:Int)),(54,.slice sax35 L.length scx36),(4,π g4),(0,π sg),(1,.agg #[ν r.dp,.string r.nm,ν r.cl,ν r.fd,ν r.fl,σ r.dt]),(2,π (A.ad k))] a'∧Sep w' [Ak 0 9 1 sax35 L.length scx36 (L.flatMap sE),Ah g4 76 [ν r.dp,.string r.nm,ν r.cl,ν r.fd,ν r.fl,σ r.dt],Ah sg 101 [.slice ra2 ((addL F n r k (L.take j) t).1.length) rc2,.map (some fb)],Ak 0 76 6 ra2 ((addL F n r k (L.take j) t).1).length rc2 (((addL F n r k (L.take j) t).1).flatMap Ck),pmC iV fb (flL A (addL F n r k (L.take j) t).2),Ah cf 65 [π (A.ad 0),.map (some ob)],Av F A,AM KO ob A.C (opG F A),Ch.many R]∧(j≤L.length)) (fun (j:Nat) (ra2:Option Addr) (rc2:Nat)=>L.length-j) 0 p5 c5 ⟨h14.subs rfl,s3,Nat.zero_le _⟩ ?_
  rintro j56 ra257 rc258 a2 w4 ⟨h15,s4,hj55⟩ K2 hK7
  refine sqr fun _ hK8=>bv h15 (z:=.bool (decide ((j56:Int)<(L.length:Int)))) rfl (cLt _ _ _ _ rfl) fun _ h16=>wpList_nil<|hK8 _ _<|sq fun _ hK9=>?_
  rcases bC (decide ((j56:Int)<(L.length:Int))) with hc1 | hc1
  ·skip
   have hp1:(j56:Int)<(L.length:Int):=(dT hc1)
   refine wcT h16 rfl hc1<|h16.sk [56,55,54,4,0,1,2] rfl fun h17=>wp_skip<|hK9 _ _<|sq fun _ hK10=>wp_block ?_
   refine sq fun _ hK11=>wp_region_lit ?_
   obtain ⟨q68,hq1⟩:=AY (s4.get 0 rfl:Own _ _ _ _ _ _ _ _)
   refine sv1 h17 rfl (v:=.pointer (some ⟨q68,j56,none⟩)) (Aw h17 rfl rfl rfl (fun w=>ixO υ33 κ (sz:=1) (hq1 ω) (j:=j56) rfl ω ω w)) fun _ h18=>sw1 h18 rfl (v:=.string (L.getD j56 Bv)) (rld h18 rfl rfl (BO Ej υ9 rfl (s4.get 0 rfl:Own _ _ _ _ _ _ _ _) (hq1 ω) Bv (j:=j56) (f:=0) ω (by decide) ω rfl)) fun _ h19=>mv h19 rfl fun _ h20=>h20.sn [7,56,55,54,4,0,1,2] rfl fun h21=>hK11 _ _ ?_
   have hx:(L.getD j56 Bv)∈AC (Al F.E k):=by rw [hL,List.getD_eq_getElem?_getD,List.getElem?_eq_getElem ω];exact List.getElem_mem _
   have hlk:=(EK hok hx).1
   have hcl:=JT hok k (L.getD j56 Bv)
   have hbd:(DV F n (MT r (L.getD j56 Bv)) (CL F k (L.getD j56 Bv)) (addL F n r k (L.take j56) t)).1.length≤4000:=by rw [Lj F n r k t (ω:j56<L.length)];exact Nat.le_trans (OF F n r k L _ t) hB
   have s5:=s4.drew
   refine wp_region_held_drew (S:=fun w'=>Sep w' [Ak 0 9 1 sax35 L.length scx36 (L.flatMap sE),Ah g4 76 [ν r.dp,.string r.nm,ν r.cl,ν r.fd,ν r.fl,σ r.dt],Ah cf 65 [π (A.ad 0),.map (some ob)],Av F A,AM KO ob A.C (opG F A),Ch.many R]) κ (s5.pk [0,1,5,6,7,8] rfl) (fun hq2=>?_)
   refine tv1 hq2 h21 0 rfl rfl (v:=π sg) (fun w1 _=>(Ap h21 rfl rfl) w1) fun _ h22=>?_
   refine tv1 hq2 h22 1 rfl rfl (v:=π g4) (fun w1 _=>(rfa h22 rfl rfl (fun w=>IF g4 0 w)) w1) fun _ h23=>?_
   refine tv1 hq2 h23 2 rfl rfl (v:=ν r.dp) (fun w1 hSw=>(rld h23 rfl rfl (ldB υ3 rfl (hSw.get 1 rfl:Blk _ _ _ _) rfl))) fun _ h24=>?_
   refine tv1 hq2 h24 3 rfl rfl (v:=ν (r.dp+1)) (fun w1 _=>(BG h24 rfl rfl rfl (Dx _ _ _ ω ω ω)) w1) fun _ h25=>?_
   refine tv1 hq2 h25 4 rfl rfl (v:=.string (L.getD j56 Bv)) (fun w1 _=>(Ap h25 rfl rfl) w1) fun _ h26=>?_
   refine tv1 hq2 h26 5 rfl rfl (v:=.agg #[ν (r.dp+1),.string (L.getD j56 Bv),ν 0,ν 0,ν 0,σ []]) (fun w1 _=>(CP h26 (xs:=[(0,.tmp 63),(1,.tmp 64)]) rfl (vs:=[(0,ν (r.dp+1)),(1,.string (L.getD j56 Bv))]) rfl (fun w=>κ)) w1) fun _ h27=>?_
   refine tv1 hq2 h27 6 rfl rfl (v:=π (A.ad k)) (fun w1 _=>(Ap h27 rfl rfl) w1) fun _ h28=>?_
   refine tv1 hq2 h28 7 rfl rfl (v:=π (A.ad k)) (fun w1 _=>(Cu h28 rfl rfl) w1) fun _ h29=>?_
   refine tv1 hq2 h29 8 rfl rfl (v:=.pointer (some ⟨(A.ad k),3,none⟩)) (fun w1 _=>(rfa h29 rfl rfl (fun w=>AF (A.ad k) 0 w)) w1) fun _ h30=>?_
   refine tv1 hq2 h30 10 rfl rfl (v:=.string (L.getD j56 Bv)) (fun w1 _=>(Ap h30 rfl rfl) w1) fun _ h31=>?_
   refine to_ 9 rfl (wn rfl) κ fun _ hK12=>Br h31 rfl rfl rfl (v:=.map (some (A.mb k))) (w':=w4.drew) ((rld h31 rfl rfl (NdP.c3 (F:=FsM.nE F) (A:=AdM.nC A) (k:=k) (s5.get 6 rfl:NdP _ _ _) (show k<F.N.length from ω) hd υ95 rfl))) fun _ h32=>hK12 _ _ (s5.pk [0,1,5,6,7,8] rfl) fun hq3=>?_
   refine to_ 11 rfl (wn rfl) κ fun _ hK13=>Br h32 rfl rfl rfl (v:=π (A.ad (CL F k (L.getD j56 Bv)))) (w':=w4.drew) ((Ds h32 rfl rfl rfl (NdP.lookY (F:=FsM.nE F) (A:=AdM.nC A) (k:=k) (s5.get 6 rfl:NdP _ _ _) (show k<F.N.length from ω) hd (CO (Jg hok ((Ek _).mem_iff.1 hx))) hlk))) fun _ h33=>hK13 _ _ (s5.pk [0,1,5,6,7,8] rfl) fun hq4=>?_
   refine to_ 12 rfl (wn rfl) κ fun _ hK14=>CS h33 rfl rfl rfl (xs:=[.tmp 60,.tmp 65,.tmp 71]) rfl GJ rfl (vs:=[π sg,.agg #[ν (r.dp+1),.string (L.getD j56 Bv),ν 0,ν 0,ν 0,σ []],π (A.ad (CL F k (L.getD j56 Bv)))]) rfl (args:=#[π sg,.agg #[ν (r.dp+1),.string (L.getD j56 Bv),ν 0,ν 0,ν 0,σ []],π (A.ad (CL F k (L.getD j56 Bv)))]) rfl (ih (s:=(addL F n r k (L.take j56) t)) (r:=MT r (L.getD j56 Bv)) (k:=CL F k (L.getD j56 Bv)) (Fuel.sub hok hfu hx) hcl (MkOk.addL hok n r k _ t hMt) hbd (ω:0≤r.dp+1) (ω:r.dp+1+(n:Int)≤3000) (s5.pk [2,3,4,5,6,7,0,1,8] rfl)) fun _ v2 w5 r2 h34=>?_
   obtain ⟨rax108,rcx109,rfl,s6⟩:=r2
   refine hK14 _ _ (s6.pk [6,7,3,4,5,8] rfl) fun hq5=>h34.sk [7,56,55,54,4,0,1,2] rfl fun h35=>?_
   refine wpAnyH_done κ ?_ _
   refine hK10 _ _ ?_
   refine wp_region_lit<|bv h35 (z:=ν ((j56+1:Nat):Int)) rfl (Dx _ _ _ ω ω ω) fun _ h36=>h36.sk [73,7,55,54,4,0,1,2] rfl fun h37=>mv h37 rfl fun _ h38=>h38.sk [56,7,55,54,4,0,1,2] rfl fun h39=>wpList_nil ?_
   exact hK7 (j56+1) rax108 rcx109 _ _ ⟨h39.subs rfl,(by rw [← Lj F n r k t (ω:j56<L.length)];exact (s6.pk [6,7,0,1,2,3,4,5,8] rfl)),ω⟩ ω
  ·skip
   have hp2:¬ ((j56:Int)<(L.length:Int)):=(dF hc1)
   refine wcF h16 rfl hc1<|h16.sk [56,55,54,4,0,1,2] rfl fun h40=>wp_exit ?_
   simp only [Exit.then,Exit.inBlock,↓reduceIte,Nat.reduceEqDiff]
   refine Nj (v:=.tuple #[]) (fun _=>NI rfl _) h40.defs ?_
   rw [EJ,← ht0,hL]
   have hjl:j56=L.length:=ω
   rw [hjl,List.take_length] at s4
   exact ⟨_,_,rfl,Sep.tail_un (xs:=[_,_,_,_,_,_]) (s4.pk [2,3,4,5,6,7,8] rfl)⟩
 have s7:=s8.drew
 refine wp_region_held_drew (S:=fun w'=>Sep w' [Ah g4 76 [ν r.dp,.string r.nm,ν r.cl,ν r.fd,ν r.fl,σ r.dt],pmC iV fb (flL A s.2),Ah cf 65 [π (A.ad 0),.map (some ob)],Av F A,AM KO ob A.C (opG F A),Ch.many R]) κ (s7.pk [0,3,4,5,6,7] rfl) (fun hq6=>?_)
 refine tv1 hq6 h8 0 rfl rfl (v:=π sg) (fun w1 _=>(Ap h8 rfl rfl) w1) fun _ h41=>?_
 refine tv1 hq6 h41 1 rfl rfl (v:=π sg) (fun w1 _=>(Ap h41 rfl rfl) w1) fun _ h42=>?_
 refine tv1 hq6 h42 2 rfl rfl (v:=π sg) (fun w1 _=>(Cu h42 rfl rfl) w1) fun _ h43=>?_
 refine tv1 hq6 h43 3 rfl rfl (v:=π sg) (fun w1 _=>(rfa h43 rfl rfl (fun w=>DX sg 0 w)) w1) fun _ h44=>?_
 refine tv1 hq6 h44 5 rfl rfl (v:=.agg #[ν r.dp,.string r.nm,ν r.cl,ν r.fd,ν r.fl,σ r.dt]) (fun w1 hSw=>(rld h44 rfl rfl (ldA υ76 rfl (n:=6) κ (hSw.get 0 rfl:Blk _ _ _ _) rfl rfl))) fun _ h45=>?_
 refine wpAnyH_ready (rs:=[4,6]) κ (by simp) (toc rfl (wn rfl) (fun K3 hK15=>?_) (toc rfl (wn rfl) (fun K3 hK15=>?_) AllReadyH.nil))
 ·skip
  refine Br h45 rfl rfl rfl (v:=.slice ra s.1.length rc) (w':=w7.drew) ((rld h45 rfl rfl (ldB υ74 rfl (s7.get 1 rfl:Blk _ _ _ _) rfl))) fun _ h46=>hK15 _ _ (s7.pk [0,3,4,5,6,7] rfl) fun hq7=>?_
  refine to_ 6 rfl (wn rfl) κ fun _ hK16=>CY h46 rfl rfl rfl (E:=76) (xs:=[(0,.tmp 48)]) rfl (vs:=[(0,.agg #[ν r.dp,.string r.nm,ν r.cl,ν r.fd,ν r.fl,σ r.dt])]) rfl (z:=[ν r.dp,.string r.nm,ν r.cl,ν r.fd,ν r.fl,σ r.dt]) (fun _=>κ) s7 fun _ g1 w6 h47 s9 _ _=>?_
  refine hK16 _ _ (s9.pk [1,4,5,6,7,8] rfl) fun hq8=>?_
  refine to_ 7 rfl (wn rfl) κ fun _ hK17=>EI Ff h47 rfl rfl rfl rfl ERw s9 3 rfl rfl 0 (y:=(⟨r.dp,r.nm,r.cl,r.fd,r.fl,r.dt⟩:RowM)) rfl rfl rfl (by decide) ω (L':=t.1) ht.symm fun _ p152 c153 w8 h48 s10=>?_
  have s11:=s10.pk [1,2,3,4,5,6,7,8] rfl;clear s10
  refine hK17 _ _ (s11.pk [0,3,4,5,6,7] rfl) fun hq9=>?_
  refine tv1 hq9 h48 8 rfl rfl (v:=π sg) (fun w1 _=>(Cu h48 rfl rfl) w1) fun _ h49=>?_
  refine tv1 hq9 h49 9 rfl rfl (v:=π sg) (fun w1 _=>(rfa h49 rfl rfl (fun w=>DX sg 0 w)) w1) fun _ h50=>?_
  refine to_ 10 rfl (wn rfl) κ fun _ hK18=>CQ h50 rfl rfl s11 1 rfl rfl rfl [.slice p152 t.1.length c153] rfl κ rfl (by show 0+1≤2;decide) (L':=[.slice p152 t.1.length c153,.map (some fb)]) rfl (cs':=[Ah g4 76 [ν r.dp,.string r.nm,ν r.cl,ν r.fd,ν r.fl,σ r.dt],Ah sg 101 [.slice p152 t.1.length c153,.map (some fb)],Ak 0 76 6 p152 t.1.length c153 (t.1.flatMap Ck),pmC iV fb (flL A s.2),Ah cf 65 [π (A.ad 0),.map (some ob)],Av F A,AM KO ob A.C (opG F A),Ch.many R]) rfl fun _ w9 h51 s12 _=>?_
  refine hK18 _ _ (s12.pk [0,3,4,5,6,7] rfl) fun hq10=>h51.sk [4,0,1,2] rfl fun h52=>?_
  refine wpAnyH_done κ ?_ _
  exact hJ27 p152 c153 _ _ (h52.subs rfl) s12 
 ·skip
  refine CY h45 rfl rfl rfl (E:=76) (xs:=[(0,.tmp 48)]) rfl (vs:=[(0,.agg #[ν r.dp,.string r.nm,ν r.cl,ν r.fd,ν r.fl,σ r.dt])]) rfl (z:=[ν r.dp,.string r.nm,ν r.cl,ν r.fd,ν r.fl,σ r.dt]) (fun _=>κ) s7 fun _ g2 w10 h53 s13 _ _=>hK15 _ _ (s13.pk [1,4,5,6,7,8] rfl) fun hq11=>?_
  refine to_ 4 rfl (wn rfl) κ fun _ hK19=>Br h53 rfl rfl rfl (v:=.slice ra s.1.length rc) (w':=w10) ((rld h53 rfl rfl (ldB υ74 rfl (s13.get 2 rfl:Blk _ _ _ _) rfl))) fun _ h54=>hK19 _ _ (s13.pk [1,4,5,6,7,8] rfl) fun hq12=>?_
  refine to_ 7 rfl (wn rfl) κ fun _ hK20=>EI Ff h54 rfl rfl rfl rfl ERw s13 3 rfl rfl 0 (y:=(⟨r.dp,r.nm,r.cl,r.fd,r.fl,r.dt⟩:RowM)) rfl rfl rfl (by decide) ω (L':=t.1) ht.symm fun _ p185 c186 w11 h55 s14=>?_
  have s15:=s14.pk [1,2,3,4,5,6,7,8] rfl;clear s14
  refine hK20 _ _ (s15.pk [0,3,4,5,6,7] rfl) fun hq13=>?_
  refine tv1 hq13 h55 8 rfl rfl (v:=π sg) (fun w1 _=>(Cu h55 rfl rfl) w1) fun _ h56=>?_
  refine tv1 hq13 h56 9 rfl rfl (v:=π sg) (fun w1 _=>(rfa h56 rfl rfl (fun w=>DX sg 0 w)) w1) fun _ h57=>?_
  refine to_ 10 rfl (wn rfl) κ fun _ hK21=>CQ h57 rfl rfl s15 1 rfl rfl rfl [.slice p185 t.1.length c186] rfl κ rfl (by show 0+1≤2;decide) (L':=[.slice p185 t.1.length c186,.map (some fb)]) rfl (cs':=[Ah g4 76 [ν r.dp,.string r.nm,ν r.cl,ν r.fd,ν r.fl,σ r.dt],Ah sg 101 [.slice p185 t.1.length c186,.map (some fb)],Ak 0 76 6 p185 t.1.length c186 (t.1.flatMap Ck),pmC iV fb (flL A s.2),Ah cf 65 [π (A.ad 0),.map (some ob)],Av F A,AM KO ob A.C (opG F A),Ch.many R]) rfl fun _ w12 h58 s16 _=>?_
  refine hK21 _ _ (s16.pk [0,3,4,5,6,7] rfl) fun hq14=>h58.sk [4,0,1,2] rfl fun h59=>?_
  refine wpAnyH_done κ ?_ _
  exact hJ27 p185 c186 _ _ (h59.subs rfl) s16 
theorem PT {F:FsM} {A:AdM} {δ:Nat→Int} {cf ob sg fb:Nat} (hok:FsC F δ) (hz:SmF F):∀ (n:Nat) {w:World} {ra:Option Addr} {rc:Nat} {s:Rows} {r:RowM} {k:Nat} {R:List Ch},Fuel F n k→k<F.N.length→MkOk F s.2→(DV F n r k s).1.length≤4000→0≤r.dp→r.dp+(n:Int)≤3000→Sep w ([Ah sg 101 [.slice ra s.1.length rc,.map (some fb)],Ak 0 76 6 ra s.1.length rc (s.1.flatMap Ck),pmC iV fb (flL A s.2),Ah cf 65 [π (A.ad 0),.map (some ob)],Av F A,AM KO ob A.C (opG F A)]++R)→CallsR Tryz.prog 60 #[π sg,.agg #[ν r.dp,.string r.nm,ν r.cl,ν r.fd,ν r.fl,σ r.dt],π (A.ad k)] w (fun v w'=>∃ ra' rc',v=.tuple #[]∧Sep w' ([Ah sg 101 [.slice ra' ((DV F n r k s).1.length) rc',.map (some fb)],Ak 0 76 6 ra' ((DV F n r k s).1).length rc' (((DV F n r k s).1).flatMap Ck),pmC iV fb (flL A (DV F n r k s).2),Ah cf 65 [π (A.ad 0),.map (some ob)],Av F A,AM KO ob A.C (opG F A)]++R))
 | n,w,ra,rc,s,r,k,R,hfu,hk,hM,hB,h0,h1,hS=>by
  cases hd:F.dir k with
  | false=>
   rw [OD hok hd] at hB ⊢
   have:=Ge F r k s
   by_cases hm:k∈s.2
   ·exact PS hS hok hz hk hM hd hm ω
   ·exact PR hS hok hz hk hM hd hm ω
  | true=>
   obtain ⟨m,rfl⟩:=hfu.pos hok hd
   exact Sx hS hok hz hk hM hd hfu hB h0 h1 (fun a b c d e f g=>PT hok hz m a b c d e f g)
termination_by n=>n
end
section
theorem RS (p:Int×Int):(kvC p).length=2:=rfl
theorem OH (F:FsM) (t:Rows) {P:List (Int×Int)} {j:Nat} (hj:j<P.length):Di F (Nl (P.getD j (0,0))) (FA F (P.getD j (0,0))) (addO F (P.take j) t)=addO F (P.take (j+1)) t:=by
 rw [← OG,List.take_succ_eq_append_getElem hj,List.getD_eq_getElem?_getD,List.getElem?_eq_getElem hj];rfl
theorem Ny {F:FsM} {δ:Nat→Int} (hF:FsC F δ) {p:Int×Int} (h:p∈EX F):Az F.O p.1 p.2=some (FA F p):=by
 obtain ⟨m,hm⟩:=Option.isSome_iff_exists.1 ((IH hF).1 h)
 unfold FA;rw [hm];rfl
theorem MkOk.addO {F:FsM} {δ:Nat→Int} (hF:FsC F δ) (P:List (Int×Int)) (t:Rows) (h:MkOk F t.2):MkOk F (addO F P t).2:=by
 induction P generalizing t with
 | nil=>exact h
 | cons p P ih=>
  refine ih _ (h.mark ?_)
  unfold FA
  cases hl:Az F.O p.1 p.2 with
  | none=>exact hF.n0.1
  | some m=>exact (hF.look_fd hl).1
theorem ED (args:Array Value) (w:World):(callFunc 60 args).run Tryz.prog w=.ok (.enter 60 args) w:=by
 have h:=Tryz.func60
 go_simp
theorem BW (args:Array Value) (w:World):(callFunc 62 args).run Tryz.prog w=.ok (.enter 62 args) w:=by
 have h:=Tryz.func62
 go_simp
theorem DH (args:Array Value) (w:World):(callFunc 61 args).run Tryz.prog w=.ok (.enter 61 args) w:=by
 have h:=Tryz.func61
 go_simp
theorem HW (g off:Nat) (w:World):(Instr.fieldAt 101 (.pointer (some ⟨g,off,none⟩)) 0).run Tryz.prog w=.ok (.pointer (some ⟨g,off+0,none⟩)) w:=rfl
theorem Rc {w:World} {cf ob:Nat} {F:FsM} {A:AdM} {R:List Ch} {δ:Nat→Int} (hS0:Sep w ((cP cf ob F A)++R)) (hok:FsC F δ) (hz:SmF F) :
  CallsR Tryz.prog 31 #[π cf] w (fun v w'=>∃ xa xc,v=.slice xa (Cx F).length xc∧Sep w' (Ak 0 76 6 xa (Cx F).length xc ((Cx F).flatMap Ck)::(cP cf ob F A)++R)):=by
 have hS:=Sep.tail_many (xs:=cP cf ob F A) hS0;clear hS0
 have hz0:=hz;obtain ⟨hz1,hz2,hz3⟩:F.N.length≤1000∧F.E.length≤1000∧F.O.length≤1000:=hz
 obtain ⟨t0,ht0⟩:∃ t,t=DV F 1000 Dv 0 ([],[]):=⟨_,rfl⟩
 obtain ⟨P,hP⟩:∃ P,EX F=P:=⟨_,rfl⟩
 have hPl:(EX F).length=P.length:=by rw [hP]
 have hPn:=IG F
 have hB:=MM hok 1000
 rw [← ht0] at hB
 have hMt:MkOk F t0.2:=by rw [ht0];exact MkOk.add hok 1000 Dv 0 ([],[]) MkOk.nil hok.n0.1
 have hn0:=hok.n0.1
 refine AB Tryz.func31 rfl (N:=42) Tryz.ntmps31 (by show 1≤42;decide) [(0,π cf)] rfl fun _ h1=>sqr fun _ hK3=>mv h1 rfl fun _ h4=>wpList_nil<|hK3 _ _<|sqr fun _ hK6=>so (wn rfl) fun _ hK1=>Ru (av:=iV) h4 rfl rfl rfl rfl hS fun _ fb7 w2 h8 s1=>hK1 _ _ ?_
 refine bu h8 (v:=.agg #[.slice none 0 0,.map (some fb7)]) rfl (fun w=>κ) fun _ h2=>so (wn rfl) fun _ hK2=>Cv h2 rfl rfl rfl rfl rfl (z:=[.slice none 0 0,.map (some fb7)]) rfl s1 fun _ g1 w3 h3 s2 _ _=>hK2 _ _ ?_
 refine mv h3 rfl fun _ h5=>h5.sn [3,2,0] rfl fun h6=>hK6 _ _<|sq fun _ hK4=>?_
 have s3:=s2.ownNil 0 76 6
 refine wp_region_lit<|mv h6 rfl fun _ h7=>bu h7 (v:=.agg #[ν 0,σ [],ν 0,ν 0,ν 0,σ []]) rfl (fun w=>κ) fun _ h9=>mvs 2 h9 rfl fun _ h10=>fav h10 rfl (DD _ _) fun _ h11=>ldv h11 s3 3 υ62 rfl rfl rfl rfl fun _ h12=>cl h12 rfl ED ((by have z:=PT (s:=([],[])) (r:=Dv) (k:=0) (cf:=cf) (ob:=ob) (A:=A) hok hz0 1000 (fun _=>⟨[],rfl,by rw [List.length_nil];omega⟩) hok.n0.1 MkOk.nil (by rw [← ht0];omega) (by decide) (by decide) (s3.pk [1,0,2,3,4,5,6] rfl);rw [← ht0] at z;exact z)) fun _ v1 w4 r1 h13=>?_
 obtain ⟨rax40,rcx41,rfl,s4⟩:=r1
 refine h13.sn [3,2,0] rfl fun h14=>hK4 _ _<|sq fun _ hK5=>sqr fun _ hK7=>mvs 2 h14 rfl fun _ h15=>fav h15 rfl (BQ _ _) fun _ h16=>ldv h16 s4 3 υ63 rfl rfl rfl rfl fun _ h17=>cl h17 rfl BW (RP (s4.pk [5,0,1,2,3,4,6] rfl)) fun _ v2 w5 r2 h18=>?_
 obtain ⟨lb67,rfl,hky66,s5⟩:=r2
 refine cl h18 rfl DH (PB (F:=F) s5 hky66 (QF hok) (by have:=IG F;omega) (fun h=>Tp hok h)) fun _ v3 w6 r3 h19=>?_
 obtain ⟨dax69,dcx70,rfl,s6⟩:=r3
 refine sv1 h19 rfl (v:=ν (((EX F).length:Nat):Int)) (CR h19 rfl rfl υ103) fun _ h20=>mv h20 rfl fun _ h21=>h21.sn [23,22,21,3,2,0] rfl fun h22=>hK7 _ _<|wp_block ?_
 have s7:Sep w6 [Ak 0 68 2 dax69 P.length dcx70 (P.flatMap kvC),Ah g1 101 [.slice rax40 ((addO F (P.take 0) t0).1.length) rcx41,.map (some fb7)],Ak 0 76 6 rax40 ((addO F (P.take 0) t0).1).length rcx41 (((addO F (P.take 0) t0).1).flatMap Ck),pmC iV fb7 (flL A (addO F (P.take 0) t0).2),Ah cf 65 [π (A.ad 0),.map (some ob)],Av F A,AM KO ob A.C (opG F A),Ch.many R]:=by rw [List.take_zero,show addO F [] t0=t0 from rfl,← hP];exact (s6.pk [0,2,3,4,5,6,1,7] rfl)
 rw [hPl] at h22
 refine Ee (fun (j:Nat) (ra2:Option Addr) (rc2:Nat) a' w'=>Kn 42 [(23,ν (j:Int)),(22,ν ((P.length:Nat):Int)),(21,.slice dax69 P.length dcx70),(3,π g1),(2,.slice none 0 0),(0,π cf)] a'∧Sep w' [Ak 0 68 2 dax69 P.length dcx70 (P.flatMap kvC),Ah g1 101 [.slice ra2 ((addO F (P.take j) t0).1.length) rc2,.map (some fb7)],Ak 0 76 6 ra2 ((addO F (P.take j) t0).1).length rc2 (((addO F (P.take j) t0).1).flatMap Ck),pmC iV fb7 (flL A (addO F (P.take j) t0).2),Ah cf 65 [π (A.ad 0),.map (some ob)],Av F A,AM KO ob A.C (opG F A),Ch.many R]∧(j≤P.length)) (fun (j:Nat) (ra2:Option Addr) (rc2:Nat)=>P.length-j) 0 rax40 rcx41 ⟨h22.subs rfl,s7,Nat.zero_le _⟩ ?_
 rintro j90 ra291 rc292 a1 w7 ⟨h23,s8,hj89⟩ K1 hK8
 refine sqr fun _ hK9=>bv h23 (z:=.bool (decide ((j90:Int)<((P.length:Nat):Int)))) rfl (cLt _ _ _ _ rfl) fun _ h24=>wpList_nil<|hK9 _ _<|sq fun _ hK10=>?_
 rcases bC (decide ((j90:Int)<((P.length:Nat):Int))) with hc1 | hc1
 ·skip
  have hp1:(j90:Int)<((P.length:Nat):Int):=(dT hc1)
  refine wcT h24 rfl hc1<|h24.sk [23,22,21,3,2,0] rfl fun h25=>wp_skip<|hK10 _ _<|sq fun _ hK11=>wp_block ?_
  refine sq fun _ hK12=>wp_region_lit ?_
  obtain ⟨q102,hq1⟩:=AY (s8.get 0 rfl:Own _ _ _ _ _ _ _ _)
  refine sv1 h25 rfl (v:=.pointer (some ⟨q102,j90*2,none⟩)) (Aw h25 rfl rfl rfl (fun w=>ixO υ103 κ (sz:=2) (hq1 ω) (j:=j90) rfl ω ω w)) fun _ h26=>sw1 h26 rfl (v:=.agg #[ν ((P.getD j90 (0,0)).1),ν ((P.getD j90 (0,0)).2)]) (rld h26 rfl rfl (Mx RS υ68 rfl κ (s8.get 0 rfl:Own _ _ _ _ _ _ _ _) (hq1 ω) (0,0) ω rfl)) fun _ h27=>so (wn rfl) fun _ hK13=>BB h27 rfl rfl rfl rfl (z:=[ν 0,ν 0]) (fun _=>rfl) s8 fun _ g2 w8 h28 s9 _ _=>hK13 _ _ ?_
  refine stA h28 s9 0 rfl rfl rfl κ rfl rfl rfl rfl fun _ w9 h29 s10 _=>h29.sn [5,23,22,21,3,2,0] rfl fun h30=>hK12 _ _ ?_
  have hx:(P.getD j90 (0,0))∈EX F:=by rw [hP,List.getD_eq_getElem?_getD,List.getElem?_eq_getElem ω];exact List.getElem_mem _
  have hlk:=Ny hok hx
  have hnf:=hok.look_fd hlk
  have hwx:=wfO hok hlk
  have hbd:(DV F 0 (Nl (P.getD j90 (0,0))) (FA F (P.getD j90 (0,0))) (addO F (P.take j90) t0)).1.length≤4000:=by show (Di _ _ _ _).1.length≤_;rw [Ge,Me,List.length_take];omega
  have s11:=s10.drew
  refine wp_region_held_drew (S:=fun w'=>Sep w' [Ah g2 68 [ν ((P.getD j90 (0,0)).1),ν ((P.getD j90 (0,0)).2)],Ak 0 68 2 dax69 P.length dcx70 (P.flatMap kvC),Ah cf 65 [π (A.ad 0),.map (some ob)],Av F A,AM KO ob A.C (opG F A),Ch.many R]) κ (s11.pk [0,1,5,6,7,8] rfl) (fun hq2=>?_)
  refine tv1 hq2 h30 0 rfl rfl (v:=π g1) (fun w1 _=>(Ap h30 rfl rfl) w1) fun _ h31=>?_
  refine tv1 hq2 h31 1 rfl rfl (v:=.agg #[ν ((P.getD j90 (0,0)).1),ν ((P.getD j90 (0,0)).2)]) (fun w1 hSw=>(rld h31 rfl rfl (ldA υ68 rfl (n:=2) κ (hSw.get 0 rfl:Blk _ _ _ _) rfl rfl))) fun _ h32=>?_
  refine tv1 hq2 h32 2 rfl rfl (v:=.agg #[ν 0,σ [],ν ((P.getD j90 (0,0)).1),ν ((P.getD j90 (0,0)).2),ν 0,σ []]) (fun w1 _=>(CP h32 (xs:=[(2,.tmp 28)]) rfl (vs:=[(2,.agg #[ν ((P.getD j90 (0,0)).1),ν ((P.getD j90 (0,0)).2)])]) rfl (fun w=>κ)) w1) fun _ h33=>?_
  refine tv1 hq2 h33 3 rfl rfl (v:=π cf) (fun w1 _=>(Ap h33 rfl rfl) w1) fun _ h34=>?_
  refine tv1 hq2 h34 4 rfl rfl (v:=π cf) (fun w1 _=>(Cu h34 rfl rfl) w1) fun _ h35=>?_
  refine tv1 hq2 h35 5 rfl rfl (v:=.pointer (some ⟨cf,1,none⟩)) (fun w1 _=>(rfa h35 rfl rfl (fun w=>BQ cf 0 w)) w1) fun _ h36=>?_
  refine tv1 hq2 h36 6 rfl rfl (v:=.map (some ob)) (fun w1 hSw=>(rld h36 rfl rfl (ldB υ63 rfl (hSw.get 2 rfl:Blk _ _ _ _) rfl))) fun _ h37=>?_
  refine tv1 hq2 h37 7 rfl rfl (v:=.agg #[ν ((P.getD j90 (0,0)).1),ν ((P.getD j90 (0,0)).2)]) (fun w1 hSw=>(rld h37 rfl rfl (ldA υ68 rfl (n:=2) κ (hSw.get 0 rfl:Blk _ _ _ _) rfl rfl))) fun _ h38=>?_
  refine to_ 8 rfl (wn rfl) κ fun _ hK14=>Br h38 rfl rfl rfl (v:=π (A.ad (FA F (P.getD j90 (0,0))))) (w':=w9.drew) ((Ds h38 rfl rfl rfl (IP (F:=F) (A:=A) (s11.get 7 rfl:MapG KO _ _ _ _) hwx hlk))) fun _ h39=>hK14 _ _ (s11.pk [0,1,5,6,7,8] rfl) fun hq3=>?_
  refine to_ 9 rfl (wn rfl) κ fun _ hK15=>CS h39 rfl rfl rfl (xs:=[.tmp 27,.tmp 29,.tmp 35]) rfl ED rfl (vs:=[π g1,.agg #[ν 0,σ [],ν ((P.getD j90 (0,0)).1),ν ((P.getD j90 (0,0)).2),ν 0,σ []],π (A.ad (FA F (P.getD j90 (0,0))))]) rfl (args:=#[π g1,.agg #[ν 0,σ [],ν ((P.getD j90 (0,0)).1),ν ((P.getD j90 (0,0)).2),ν 0,σ []],π (A.ad (FA F (P.getD j90 (0,0))))]) rfl (PT (s:=(addO F (P.take j90) t0)) (r:=Nl (P.getD j90 (0,0))) (k:=FA F (P.getD j90 (0,0))) (cf:=cf) (ob:=ob) (A:=A) hok hz0 0 (fun q=>absurd q (Sq hnf.2)) hnf.1 (MkOk.addO hok _ _ hMt) hbd (Int.le_refl 0) (show (0:Int)+0≤3000 by decide) (s11.pk [2,3,4,5,6,7,0,1,8] rfl)) fun _ v4 w10 r4 h40=>?_
  obtain ⟨rax146,rcx147,rfl,s12⟩:=r4
  refine hK15 _ _ (s12.pk [6,7,3,4,5,8] rfl) fun hq4=>h40.sk [5,23,22,21,3,2,0] rfl fun h41=>?_
  refine wpAnyH_done κ ?_ _
  refine hK11 _ _ ?_
  refine wp_region_lit<|bv h41 (z:=ν ((j90+1:Nat):Int)) rfl (Dx _ _ _ ω ω ω) fun _ h42=>h42.sk [37,5,22,21,3,2,0] rfl fun h43=>mv h43 rfl fun _ h44=>h44.sk [23,5,22,21,3,2,0] rfl fun h45=>wpList_nil ?_
  exact hK8 (j90+1) rax146 rcx147 _ _ ⟨h45.subs rfl,(by rw [← OH F t0 (ω:j90<P.length)];exact (s12.pk [7,0,1,2,3,4,5,8] rfl)),ω⟩ ω
 ·skip
  have hp2:¬ ((j90:Int)<((P.length:Nat):Int)):=(dF hc1)
  refine wcF h24 rfl hc1<|h24.sk [23,22,21,3,2,0] rfl fun h46=>wp_exit ?_
  refine hK5 _ _ ?_
  refine sqr fun _ hK16=>mvs 2 h46 rfl fun _ h47=>fav h47 rfl (HW _ _) fun _ h48=>ldv h48 s8 1 υ74 rfl rfl rfl rfl fun _ h49=>h49.sk [41,40,39,38,23,22,21,3,0] rfl fun h50=>mv h50 rfl fun _ h51=>h51.sn [2,23,22,21,3,0] rfl fun h52=>hK16 _ _<|wp_ret ?_
  try simp only [Exit.then,Exit.inBlock]
  refine Bn (v:=.slice ra291 ((addO F (P.take j90) t0).1.length) rc292) (Cf h52 rfl rfl) h52.defs ?_
  have hjl:j90=P.length:=ω
  rw [hjl,List.take_length] at s8
  have hrw:Cx F=(addO F P t0).1:=by unfold Cx Ov;rw [hP,← ht0]
  rw [hrw]
  exact ⟨_,_,by rw [hjl,List.take_length],Sep.tail_un (xs:=[_,_,_,_]) (s8.pk [2,4,5,6,7] rfl)⟩
end
section
def IR (a b:RowM):Bool:=decide (a.dp=b.dp∧a.nm=b.nm∧a.cl=b.cl∧a.fd=b.fd∧a.fl=b.fl∧a.dt=b.dt)
theorem KC {a b:RowM}:IR a b=true↔a=b:=by
  unfold IR
  rw [decide_eq_true_iff]
  obtain ⟨a0,a1,a2,a3,a4,a5⟩:=a
  obtain ⟨b0,b1,b2,b3,b4,b5⟩:=b
  simp
theorem Se (x y:ByteArray):x.toList=y.toList↔x=y:=by
  rw [ByteArray.toList_eq,ByteArray.toList_eq]
  exact ⟨fun h=>ByteArray.ext (Array.toList_inj.1 h),fun h=>by rw [h]⟩
theorem Qv (a b:RowM) (w:World):(Op.equalIn 10000 76 (.agg (Ck a).toArray) (.agg (Ck b).toArray)).run Tryz.prog w=.ok (IR a b) w:=by
  obtain ⟨x0,x1,x2,x3,x4,x5⟩:=a
  obtain ⟨y0,y1,y2,y3,y4,y5⟩:=b
  have u3:=υ3
  have a3:=Tryz.isAgg3
  have z3:=Tryz.sizeOf3
  have u9:=υ9
  have a9:=Tryz.isAgg9
  have z9:=Tryz.sizeOf9
  have u68:=υ68
  have a68:=Tryz.isAgg68
  have z68:=Tryz.sizeOf68
  have hS:Tryz.prog.underlying 76=some (.struct (Tryz.prog.fieldsOf 76)):=κ
  have hp:Tryz.prog.stoodInHeld 76=false:=κ
  have hS2:Tryz.prog.underlying 68=some (.struct (Tryz.prog.fieldsOf 68)):=κ
  have hp2:Tryz.prog.stoodInHeld 68=false:=κ
  show (Op.equalIn 10000 76 (.agg #[ν x0,.string x1,ν x2,ν x3,ν x4,σ x5]) (.agg #[ν y0,.string y1,ν y2,ν y3,ν y4,σ y5])).run Tryz.prog w=_
  rw [show (10000:Nat)=9999+1 from rfl,run_equalIn_agg w 9999 76 _ _ hS hp]
  simp only [Program.fieldsOf,υ76]
  go_simp
  simp only [Se,KQ]
  unfold IR
  by_cases h0:x0=y0
  case neg=>simp [h0]
  by_cases h1:x1=y1
  case neg=>simp [h1]
  by_cases h2:x2=y2
  case neg=>simp [h2]
  by_cases h3:x3=y3
  case neg=>simp [h3]
  by_cases h4:x4=y4
  case neg=>simp [h4]
  by_cases h5:x5=y5
  case neg=>simp [h5]
  simp [h0,h1,h2,h3,h4,h5]
theorem OW (o p:Operand) (a b:RowM) (w:World):(do eqGuard .neq 76 o p (.agg (Ck a).toArray) (.agg (Ck b).toArray);binOp .neq 76 (.agg (Ck a).toArray) (.agg (Ck b).toArray):Sem Value).run Tryz.prog w=.ok (.bool (!IR a b)) w:=by
  rw [Sem.run_bind,run_eqGuard_agg (P:=Tryz.prog) w .neq 76 o p _ _ κ]
  show (binOp .neq 76 _ _).run Tryz.prog w=_
  rw [run_neq_struct,Qv]
  rfl
def Ec (L M:List RowM):Bool:=decide (L.length=M.length)&&(List.range L.length).all fun i=>IR (L.getD i Dv) (M.getD i Dv)
theorem ER {L M:List RowM}:Ec L M=true↔L=M:=by
  unfold Ec
  rw [Bool.and_eq_true,decide_eq_true_iff,List.all_eq_true]
  constructor
  · rintro ⟨h1,h2⟩
    refine List.ext_getElem h1 fun i hi hj=>?_
    have z:=KC.1 (h2 i (List.mem_range.2 hi))
    rw [List.getD_eq_getElem?_getD,List.getElem?_eq_getElem hi,List.getD_eq_getElem?_getD,List.getElem?_eq_getElem hj] at z
    exact z
  · rintro rfl
    exact ⟨rfl,fun i _=>KC.2 rfl⟩
end
section
theorem ST {L M:List RowM} {n:Nat} (h:∀ i,i<n→IR (L.getD i Dv) (M.getD i Dv)=true) (h2:IR (L.getD n Dv) (M.getD n Dv)=true):∀ i,i<n+1→IR (L.getD i Dv) (M.getD i Dv)=true:=fun i hi=>by
 by_cases e:i=n
 ·subst e;exact h2
 ·exact h i ω
theorem Rb {L M:List RowM} {n:Nat} (hl:L.length=M.length) (hn:L.length≤n) (h:∀ i,i<n→IR (L.getD i Dv) (M.getD i Dv)=true):L=M:=by
 refine ER.1 ?_
 unfold Ec
 rw [Bool.and_eq_true,decide_eq_true_iff,List.all_eq_true]
 exact ⟨hl,fun i hi=>h i (by have:=List.mem_range.1 hi;omega)⟩
theorem Ma {L M:List RowM} (h:L.length≠M.length):Ec L M=false:=by
 cases q:Ec L M with
 | false=>rfl
 | true=>exact absurd (congrArg List.length (ER.1 q)) h
theorem Rd {L M:List RowM} {n:Nat} (hn:n<L.length) (h:IR (L.getD n Dv) (M.getD n Dv)=false):Ec L M=false:=by
 cases q:Ec L M with
 | false=>rfl
 | true=>
  have e:=ER.1 q
  subst e
  rw [KC.2 rfl] at h;cases h
theorem LC {F:FsM} {δ:Nat→Int} (hF:FsC F δ) (hz:SmF F):(Cx F).length≤4000:=by
 unfold Cx Ov
 rw [Me]
 have h1:=MM hF 1000
 have h2:=IG F
 have h3:=hz.2.1
 omega
theorem Fh (args:Array Value) (w:World):(callFunc 31 args).run Tryz.prog w=.ok (.enter 31 args) w:=by
 have h:=Tryz.func31
 go_simp
theorem DM (args:Array Value) (w:World):(callFunc 30 args).run Tryz.prog w=.ok (.enter 30 args) w:=by
 have h:=Tryz.func30
 go_simp
theorem Mm {w:World} {R:List Ch} {xa ya:Option Addr} {xc yc:Nat} {L M:List RowM} (hS0:Sep w ([Ak 0 76 6 xa L.length xc (L.flatMap Ck),Ak 0 76 6 ya M.length yc (M.flatMap Ck)]++R)) (hl:L.length≤4000) (hm:M.length≤4000) :
  CallsR Tryz.prog 30 #[.slice xa L.length xc,.slice ya M.length yc] w (fun v w'=>v=.bool (Ec L M)∧Sep w' ([Ak 0 76 6 xa L.length xc (L.flatMap Ck),Ak 0 76 6 ya M.length yc (M.flatMap Ck)]++R)):=by
 have hS:Sep w [Ak 0 76 6 xa L.length xc (L.flatMap Ck),Ak 0 76 6 ya M.length yc (M.flatMap Ck),Ch.many R]:=Sep.tail_many (xs:=[_,_]) hS0;clear hS0
 refine AB Tryz.func30 rfl (N:=26) Tryz.ntmps30 (by show 2≤26;decide) [(0,.slice xa L.length xc),(1,.slice ya M.length yc)] rfl fun _ h1=>sqr fun _ hK3=>mv h1 rfl fun _ h4=>wpList_nil<|hK3 _ _<|sq fun _ hK6=>sqr fun _ hK7=>mv h4 rfl fun _ h8=>sv1 h8 rfl (v:=ν (L.length:Int)) (CR h8 rfl rfl υ74) fun _ h2=>mv h2 rfl fun _ h3=>sv1 h3 rfl (v:=ν (M.length:Int)) (CR h3 rfl rfl υ74) fun _ h5=>bv h5 (z:=.bool (decide ((L.length:Int)≠(M.length:Int)))) rfl (cNe _ _ _ _ rfl) fun _ h6=>?_
 refine h6.sn [10,4,0,1] rfl fun h7=>hK7 _ _ ?_
 rcases bC (decide ((L.length:Int)≠(M.length:Int))) with hc1 | hc1
 ·skip
  have hp1:(L.length:Int)≠(M.length:Int):=(dT hc1)
  refine wcT h7 rfl hc1<|h7.sk [4,0,1] rfl fun h9=>sqr fun _ hK1=>h9.sk [0,1] rfl fun h10=>mv h10 rfl fun _ h11=>wpList_nil<|hK1 _ _<|wp_ret ?_
  try simp only [Exit.then,Exit.inBlock]
  refine Bn (v:=.bool false) (Cf h11 rfl rfl) h11.defs ?_
  refine ⟨by rw [Ma ω],Sep.tail_un (xs:=[_,_]) hS⟩
 ·skip
  have hp2:¬ ((L.length:Int)≠(M.length:Int)):=(dF hc1)
  refine wcF h7 rfl hc1<|h7.sk [4,0,1] rfl fun h12=>wp_skip<|hK6 _ _<|sq fun _ hK2=>sqr fun _ hK4=>mv h12 rfl fun _ h13=>sv1 h13 rfl (v:=ν (L.length:Int)) (CR h13 rfl rfl υ74) fun _ h14=>mv h14 rfl fun _ h15=>h15.sn [13,12,4,0,1] rfl fun h16=>hK4 _ _<|wp_block ?_
  refine DC (fun (n:Nat) a' w'=>Kn 26 [(13,ν (n:Int)),(12,ν (L.length:Int)),(4,.bool false),(0,.slice xa L.length xc),(1,.slice ya M.length yc)] a'∧Sep w' [Ak 0 76 6 xa L.length xc (L.flatMap Ck),Ak 0 76 6 ya M.length yc (M.flatMap Ck),Ch.many R]∧(n≤L.length)∧(∀ i,i<n→IR (L.getD i Dv) (M.getD i Dv)=true)) (fun (n:Nat)=>L.length-n) 0 ⟨h16.subs rfl,hS,Nat.zero_le _,fun i h=>ω⟩ ?_
  rintro n44 a1 w2 ⟨h17,s1,hn42,hal43⟩ K1 hK5
  refine sqr fun _ hK8=>bv h17 (z:=.bool (decide ((n44:Int)<(L.length:Int)))) rfl (cLt _ _ _ _ rfl) fun _ h18=>wpList_nil<|hK8 _ _<|sq fun _ hK9=>?_
  rcases bC (decide ((n44:Int)<(L.length:Int))) with hc2 | hc2
  ·skip
   have hp3:(n44:Int)<(L.length:Int):=(dT hc2)
   refine wcT h18 rfl hc2<|h18.sk [13,12,4,0,1] rfl fun h19=>wp_skip<|hK9 _ _<|sq fun _ hK10=>wp_block ?_
   refine sqr fun _ hK11=>mvs 2 h19 rfl fun _ h20=>h20.sn [5,13,12,4,0,1] rfl fun h21=>hK11 _ _<|sq fun _ hK12=>?_
   have s2:=s1.drew
   refine wp_region_held_drew (S:=fun w'=>Sep w' [Ak 0 76 6 xa L.length xc (L.flatMap Ck),Ak 0 76 6 ya M.length yc (M.flatMap Ck),Ch.many R]) κ s2 (fun hq1=>?_)
   refine tv1 hq1 h21 0 rfl rfl (v:=.slice xa L.length xc) (fun w1 _=>(Ap h21 rfl rfl) w1) fun _ h22=>?_
   refine tv1 hq1 h22 1 rfl rfl (v:=ν (n44:Int)) (fun w1 _=>(Ap h22 rfl rfl) w1) fun _ h23=>?_
   obtain ⟨q66,hq2⟩:=AY (s2.get 0 rfl:Own _ _ _ _ _ _ _ _)
   refine tv1 hq1 h23 2 rfl rfl (v:=.pointer (some ⟨q66,n44*6,none⟩)) (fun w1 _=>(Aw h23 rfl rfl rfl (fun w=>ixO υ74 κ (sz:=6) (hq2 ω) (j:=n44) rfl ω ω w)) w1) fun _ h24=>?_
   refine tv1 hq1 h24 3 rfl rfl (v:=.agg #[ν ((L.getD n44 Dv).dp),.string ((L.getD n44 Dv).nm),ν ((L.getD n44 Dv).cl),ν ((L.getD n44 Dv).fd),ν ((L.getD n44 Dv).fl),σ ((L.getD n44 Dv).dt)]) (fun w1 hSw=>(rld h24 rfl rfl (Mx Ff υ76 rfl κ (hSw.get 0 rfl:Own _ _ _ _ _ _ _ _) (hq2 ω) Dv ω rfl))) fun _ h25=>?_
   refine tv1 hq1 h25 4 rfl rfl (v:=.slice ya M.length yc) (fun w1 _=>(Ap h25 rfl rfl) w1) fun _ h26=>?_
   refine tv1 hq1 h26 5 rfl rfl (v:=ν (n44:Int)) (fun w1 _=>(Ap h26 rfl rfl) w1) fun _ h27=>?_
   obtain ⟨q76,hq3⟩:=AY (s2.get 1 rfl:Own _ _ _ _ _ _ _ _)
   refine tv1 hq1 h27 6 rfl rfl (v:=.pointer (some ⟨q76,n44*6,none⟩)) (fun w1 _=>(Aw h27 rfl rfl rfl (fun w=>ixO υ74 κ (sz:=6) (hq3 ω) (j:=n44) rfl ω ω w)) w1) fun _ h28=>?_
   refine tv1 hq1 h28 7 rfl rfl (v:=.agg #[ν ((M.getD n44 Dv).dp),.string ((M.getD n44 Dv).nm),ν ((M.getD n44 Dv).cl),ν ((M.getD n44 Dv).fd),ν ((M.getD n44 Dv).fl),σ ((M.getD n44 Dv).dt)]) (fun w1 hSw=>(rld h28 rfl rfl (Mx Ff υ76 rfl κ (hSw.get 1 rfl:Own _ _ _ _ _ _ _ _) (hq3 ω) Dv ω rfl))) fun _ h29=>?_
   refine tv1 hq1 h29 8 rfl rfl (v:=.bool (!(IR (L.getD n44 Dv) (M.getD n44 Dv)))) (fun w1 _=>(BG h29 rfl rfl rfl (OW _ _ (L.getD n44 Dv) (M.getD n44 Dv))) w1) fun _ h30=>?_
   refine h30.sk [24,5,13,12,4,0,1] rfl fun h31=>?_
   refine wpAnyH_done κ ?_ _
   refine hK12 _ _ ?_
   rcases bC (IR (L.getD n44 Dv) (M.getD n44 Dv)) with hc3 | hc3
   ·skip
    refine wcF h31 rfl (Bq hc3)<|h31.sk [5,13,12,4,0,1] rfl fun h32=>wp_skip<|hK10 _ _<|wp_region_lit<|bv h32 (z:=ν ((n44+1:Nat):Int)) rfl (Dx _ _ _ ω ω ω) fun _ h33=>h33.sk [25,5,12,4,0,1] rfl fun h34=>mv h34 rfl fun _ h35=>h35.sk [13,5,12,4,0,1] rfl fun h36=>wpList_nil ?_
    exact hK5 (n44+1) _ _ ⟨h36.subs rfl,s2,ω,ST hal43 hc3⟩ ω
   ·skip
    refine wcT h31 rfl (BC hc3)<|h31.sk [5,13,12,4,0,1] rfl fun h37=>sqr fun _ hK13=>h37.sk [5,13,12,0,1] rfl fun h38=>mv h38 rfl fun _ h39=>wpList_nil<|hK13 _ _<|wp_ret ?_
    try simp only [Exit.then,Exit.inBlock]
    refine Bn (v:=.bool false) (Cf h39 rfl rfl) h39.defs ?_
    refine ⟨by rw [Rd ω hc3],Sep.tail_un (xs:=[_,_]) s2⟩
  ·skip
   have hp4:¬ ((n44:Int)<(L.length:Int)):=(dF hc2)
   refine wcF h18 rfl hc2<|h18.sk [13,12,4,0,1] rfl fun h40=>wp_exit ?_
   refine hK2 _ _ ?_
   refine sqr fun _ hK14=>h40.sk [13,12,0,1] rfl fun h41=>mv h41 rfl fun _ h42=>wpList_nil<|hK14 _ _<|wp_ret ?_
   try simp only [Exit.then,Exit.inBlock]
   refine Bn (v:=.bool true) (Cf h42 rfl rfl) h42.defs ?_
   refine ⟨by rw [ER.2 (Rb (ω:L.length=M.length) (ω:L.length≤n44) hal43)],Sep.tail_un (xs:=[_,_]) s1⟩
theorem NN {w:World} {cf ob cg og:Nat} {F G:FsM} {A A2:AdM} {R:List Ch} {δ δ2:Nat→Int} (hS0:Sep w ([Ah cf 65 [π (A.ad 0),.map (some ob)],Av F A,AM KO ob A.C (opG F A),Ah cg 65 [π (A2.ad 0),.map (some og)],Av G A2,AM KO og A2.C (opG G A2)]++R)) (hok:FsC F δ) (hz:SmF F) (hok2:FsC G δ2) (hz2:SmF G) :
  CallsR Tryz.prog 17 #[π cf,π cg] w (fun v w'=>v=.bool (Ec (Cx F) (Cx G))∧Sep w' ([Ah cf 65 [π (A.ad 0),.map (some ob)],Av F A,AM KO ob A.C (opG F A),Ah cg 65 [π (A2.ad 0),.map (some og)],Av G A2,AM KO og A2.C (opG G A2)]++R)):=by
 have hS:Sep w [Ah cf 65 [π (A.ad 0),.map (some ob)],Av F A,AM KO ob A.C (opG F A),Ah cg 65 [π (A2.ad 0),.map (some og)],Av G A2,AM KO og A2.C (opG G A2),Ch.many R]:=Sep.tail_many (xs:=[_,_,_,_,_,_]) hS0;clear hS0
 refine AB Tryz.func17 rfl (N:=10) Tryz.ntmps17 (by show 2≤10;decide) [(0,π cf),(1,π cg)] rfl fun _ h1=>sqr fun _ hK3=>mv h1 rfl fun _ h4=>wpList_nil<|hK3 _ _<|sqr fun _ hK6=>mv h4 rfl fun _ h7=>cl h7 rfl Fh (Rc hS hok hz) fun _ v1 w1 r1 h2=>?_
 obtain ⟨xax9,xcx10,rfl,s1⟩:=r1
 refine mv h2 rfl fun _ h3=>cl h3 rfl Fh (Rc (s1.pk [4,5,6,0,1,2,3,7] rfl) hok2 hz2) fun _ v2 w2 r2 h5=>?_
 obtain ⟨yax20,ycx21,rfl,s2⟩:=r2
 refine cl h5 rfl DM (Mm (s2.pk [4,0,1,2,3,5,6,7,8] rfl) (LC hok hz) (LC hok2 hz2)) fun _ v3 w3 r3 h6=>?_
 obtain ⟨rfl,s3⟩:=r3
 refine h6.sk [9,8,7,6,5,0,1] rfl fun h8=>mv h8 rfl fun _ h9=>h9.sn [4,0,1] rfl fun h10=>hK6 _ _<|wp_ret ?_
 try simp only [Exit.then,Exit.inBlock]
 refine Bn (v:=.bool (Ec (Cx F) (Cx G))) (Cf h10 rfl rfl) h10.defs ?_
 exact ⟨rfl,Sep.tail_un (xs:=[_,_,_,_,_,_]) (s3.pk [5,6,7,2,3,4,8] rfl)⟩
end
end Go.Proofs.YtcanemamnmmbcaaGreatDoor
