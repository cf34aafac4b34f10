/- Paths: strings.SplitN at a slash, six pieces. -/
import Derived.Test.YtpdjnefgkcmdnaaGreatDoorPthA
namespace Go.Proofs.YtpdjnefgkcmdnaaGreatDoor
open Go.RowKit Go.Shelf
set_option linter.unusedSimpArgs false
set_option linter.unusedVariables false
set_option maxRecDepth 100000

/-- what SplitN hands back -/
def SplitP (w:World) (X:List UInt8) (e:Ending) (w':World):Prop:=
  ∃ (a:Option Addr) (c:Nat) (R:List ByteArray),e=.returned (.slice a R.length c)∧OwnS w' w.heap.size a c R∧Below w.heap.size w w' ∧
    ((R=(pieces X).map strB∧R.length≤6)∨(6<(pieces X).length∧∃ x∈R,(47:UInt8)∈x.data.toList))
def zStr (n:Nat):List Value:=List.replicate n (.string ⟨#[]⟩)
theorem zStr_len (n:Nat):(zStr n).length=n:=List.length_replicate
def rowN (L:List (List UInt8)) (n:Nat):List Value:=(L.map strB).map strV++zStr (n-L.length)
theorem rowN_len (L:List (List UInt8)) {n:Nat} (h:L.length≤n):(rowN L n).length=n:=by simp [rowN,zStr_len];omega
theorem rowN_set (L:List (List UInt8)) {n:Nat} (h:L.length<n) (x:List UInt8):(rowN L n).set L.length (.string (strB x))=rowN (L++[x]) n:=by
  unfold rowN
  have hl:((L.map strB).map strV).length=L.length:=by simp
  rw [List.set_append_right _ _ (by omega),hl,Nat.sub_self]
  unfold zStr
  rw [show n-L.length=(n-(L++[x]).length)+1 by simp;omega,List.replicate_succ,List.set_cons_zero,List.map_append,List.map_append,List.append_assoc]
  rfl
theorem rowN_take (L:List (List UInt8)) (n:Nat):(rowN L n).take L.length=(L.map strB).map strV:=by
  unfold rowN
  exact List.take_left' (by simp)
theorem ext_head (l:List UInt8) (k:Nat):(strB l).extract 0 k=strB (l.take k):=by rw [ext_str,strB_data];simp
theorem ext_tail (l:List UInt8) (k:Nat):(strB l).extract k l.length=strB (l.drop k):=by
  rw [ext_str,strB_data,List.take_of_length_le (by rw [List.length_drop];omega)]

set_option maxHeartbeats 2000000 in
set_option maxRecDepth 100000 in
theorem genSplit_any (X:List UInt8) (hX:X.length≤1000) (w:World):Calls Tryz.prog 98 #[.string (strB X),.string ⟨#[47]⟩,.int .i64 0,.int .i64 6] w (SplitP w X):=by
  have hsz:=strB_size X
  have hp1:=pieces_le X
  by_cases h6:5≤X.length
  · have i6:(6:Int)≤(X.length:Int)+1:=by omega
    go_enter Tryz.func98,Tryz.ntmps98
    go_wp2_with (refine wpl_make rfl (.tmp 30) (.tmp 30) rfl Tryz.underlying24 (z:=.string ⟨#[]⟩) (bytes:=16) (by kernel_rfl) rfl (n:=6) rfl rfl (by first | rfl | omega) (by first | rfl | omega) (by omega) (by omega) ?_;intro w1 k1 b1;have K1:=hid k1;have B1:=hid b1;clear k1 b1)
    clear hsz
    go_loopw [0,10] (fun sv i wr=>∃ (j:Nat) (cur:List UInt8) (out:List (List UInt8)),j<6∧sv=.string (strB cur)∧i=.int .i64 j∧out.length=j∧pieces X=out++pieces cur∧cur.length≤X.length∧Blk wr w.heap.size 9 (rowN out (6))∧Below w.heap.size w wr) (fun _ i _=>6-(intOf i).toNat)
    case atStart=>exact ⟨0,X,[],by omega,rfl,rfl,rfl,rfl,Nat.le_refl _,K1.out,B1.out⟩
    case round=>
      obtain ⟨j,cur,out,hj,rfl,rfl,hol,hpc,hcl,hk,hb⟩:=hrel
      have HOL:=hid hol;have HPC:=hid hpc;have HB:=hid hb;have HK:=hid hk
      have hrl:=rowN_len out (n:=6) (by omega)
      have hrs:=fun x=>rowN_set out (n:=6) (by omega) x
      have cj:∃ v,wr.cell? ⟨w.heap.size,j,none⟩=some v:=by rw [← hol];exact ⟨_,hk.cell (i:=out.length) (by rw [hrl,hol];omega)⟩
      obtain ⟨vj,cj⟩:=cj
      have fj:wr.frozen? ⟨w.heap.size,j,none⟩=false:=hk.frozen _
      have hlt:=hk.lt
      have HRS:=hid hrs
      have hcs:=strB_size cur
      have HI:=hid (fun w1=>index_any (strB cur) w1)
      clear hol hpc hb hk hrl hrs
      have ijn:(j:Int)<((6:Nat):Int):=by omega
      have e0:IntKind.i64.wrap ((j:Int)+1)=j+1:=IntWalk.i64_in _ (by omega)
      by_cases hlast:j+1=6
      · have dl:decide ((j:Int)<5)=false:=decide_eq_false (by omega)
        have il:¬ (j:Int)<5:=by omega
        have HLAST:=hid hlast
        clear hlast
        go_wp2_with fail
        have hlast:=HLAST.out
        have q:=HK.out.set j (.string (strB cur))
        have hr:=HRS.out cur
        rw [HOL.out] at hr
        rw [hr] at q
        have hpc2:=HPC.out
        go_ret
        refine ⟨some ⟨w.heap.size,0,none⟩,6,(out++[cur]).map strB,?_,?_,HB.out.setCell (p:=⟨w.heap.size,j,none⟩) (Nat.le_refl _) _,?_⟩
        · have hlen:((out++[cur]).map strB).length=j+1:=by rw [List.length_map,List.length_append,HOL.out];rfl
          rw [hlen];rfl
        · have hlen:(out++[cur]).length=j+1:=by rw [List.length_append,HOL.out];rfl
          have qq:=Own.of_blk (B:=w.heap.size) (sz:=1) (n:=j+1) (c:=6) q (Nat.le_refl _) (by omega) (by unfold maxLen;omega) (by rw [rowN_len _ (by have:=HOL.out;simp;omega)];try omega)
          rw [Nat.mul_one,← hlen,rowN_take] at qq
          show Own _ _ _ 1 _ ((out++[cur]).map strB).length _ _
          rw [List.length_map]
          exact qq
        · rcases slash_cases cur with ⟨_,hno⟩ | ⟨k,hk1,hk2,hk3,hk4⟩
          · have hp:=pieces_none hno
            rw [hp] at hpc2
            exact .inl ⟨by rw [hpc2],by rw [List.length_map,List.length_append,HOL.out];simp;omega⟩
          · refine .inr ⟨?_,strB cur,by simp,by rw [strB_data,hk4];simp⟩
            have hp:=pieces_at (cur.take k) (cur.drop (k+1)) hk3
            rw [← hk4] at hp
            rw [hp] at hpc2
            have h1:(pieces X).length=out.length+(1+(pieces (cur.drop (k+1))).length):=by rw [hpc2];simp;omega
            have h2:=List.length_pos_iff.2 (pieces_ne (cur.drop (k+1)))
            have h3:=HOL.out
            have h4:=pieces_le X
            omega
      · have dl:decide ((j:Int)<5)=true:=decide_eq_true (by omega)
        have il:(j:Int)<5:=by omega
        rcases slash_cases cur with ⟨hm,hno⟩ | ⟨k,hm,hk2,hk3,hk4⟩
        · rw [strB_data,hm] at HI
          have HNO:=hid hno
          clear hno hm
          go_wp2_with (go_at_call 110;refine (HI.out _).mono ?_;rintro e w2 ⟨rfl,rfl⟩)
          have q:=HK.out.set j (.string (strB cur))
          have hr:=HRS.out cur
          rw [HOL.out] at hr
          rw [hr] at q
          have hpc2:=HPC.out
          go_ret
          refine ⟨some ⟨w.heap.size,0,none⟩,6,(out++[cur]).map strB,?_,?_,HB.out.setCell (p:=⟨w.heap.size,j,none⟩) (Nat.le_refl _) _,?_⟩
          · have hlen:((out++[cur]).map strB).length=j+1:=by rw [List.length_map,List.length_append,HOL.out];rfl
            rw [hlen];rfl
          · have hlen:(out++[cur]).length=j+1:=by rw [List.length_append,HOL.out];rfl
            have qq:=Own.of_blk (B:=w.heap.size) (sz:=1) (n:=j+1) (c:=6) q (Nat.le_refl _) (by omega) (by unfold maxLen;omega) (by rw [rowN_len _ (by have:=HOL.out;simp;omega)];try omega)
            rw [Nat.mul_one,← hlen,rowN_take] at qq
            show Own _ _ _ 1 _ ((out++[cur]).map strB).length _ _
            rw [List.length_map]
            exact qq
          · have hp:=pieces_none HNO.out
            rw [hp] at hpc2
            exact .inl ⟨by rw [hpc2],by rw [List.length_map,List.length_append,HOL.out];simp;omega⟩
        · rw [strB_data,hm] at HI
          have hp:=pieces_at (cur.take k) (cur.drop (k+1)) hk3
          rw [← hk4] at hp
          have HP:=hid hp
          have x1:=ext_head cur k
          have x2:=ext_tail cur (k+1)
          have ik:(k:Int)<cur.length:=by omega
          have ik2:(k:Int)+1≤cur.length:=by omega
          clear hk4 hk3 hm hp
          go_wp2_with (go_at_call 110;refine (HI.out _).mono ?_;rintro e w2 ⟨rfl,rfl⟩)
          go_roundw
          case rel=>
            refine ⟨j+1,cur.drop (k+1),out++[cur.take k],by omega,rfl,by go_num,by rw [List.length_append,HOL.out];rfl,by rw [HPC.out,HP.out,List.append_assoc];rfl,by rw [List.length_drop];omega,?_,HB.out.setCell (p:=⟨w.heap.size,j,none⟩) (Nat.le_refl _) _⟩
            have q:=HK.out.set j (.string (strB (cur.take k)))
            have hr:=HRS.out (cur.take k)
            rw [HOL.out] at hr
            rw [hr] at q
            exact q
          case measure=>simp [intOf];omega
  · have i6:¬ (6:Int)≤(X.length:Int)+1:=by omega
    go_enter Tryz.func98,Tryz.ntmps98
    go_wp2_with (refine wpl_make rfl (.tmp 30) (.tmp 30) rfl Tryz.underlying24 (z:=.string ⟨#[]⟩) (bytes:=16) (by kernel_rfl) rfl (n:=(X.length+1)) rfl rfl (by first | rfl | omega) (by first | rfl | omega) (by omega) (by omega) ?_;intro w1 k1 b1;have K1:=hid k1;have B1:=hid b1;clear k1 b1)
    clear hsz
    go_loopw [0,10] (fun sv i wr=>∃ (j:Nat) (cur:List UInt8) (out:List (List UInt8)),j<(X.length+1)∧sv=.string (strB cur)∧i=.int .i64 j∧out.length=j∧pieces X=out++pieces cur∧cur.length≤X.length∧Blk wr w.heap.size 9 (rowN out ((X.length+1)))∧Below w.heap.size w wr) (fun _ i _=>(X.length+1)-(intOf i).toNat)
    case atStart=>exact ⟨0,X,[],by omega,rfl,rfl,rfl,rfl,Nat.le_refl _,K1.out,B1.out⟩
    case round=>
      obtain ⟨j,cur,out,hj,rfl,rfl,hol,hpc,hcl,hk,hb⟩:=hrel
      have HOL:=hid hol;have HPC:=hid hpc;have HB:=hid hb;have HK:=hid hk
      have hrl:=rowN_len out (n:=(X.length+1)) (by omega)
      have hrs:=fun x=>rowN_set out (n:=(X.length+1)) (by omega) x
      have cj:∃ v,wr.cell? ⟨w.heap.size,j,none⟩=some v:=by rw [← hol];exact ⟨_,hk.cell (i:=out.length) (by rw [hrl,hol];omega)⟩
      obtain ⟨vj,cj⟩:=cj
      have fj:wr.frozen? ⟨w.heap.size,j,none⟩=false:=hk.frozen _
      have hlt:=hk.lt
      have HRS:=hid hrs
      have hcs:=strB_size cur
      have HI:=hid (fun w1=>index_any (strB cur) w1)
      clear hol hpc hb hk hrl hrs
      have ijn:(j:Int)<(((X.length+1):Nat):Int):=by omega
      have e0:IntKind.i64.wrap ((j:Int)+1)=j+1:=IntWalk.i64_in _ (by omega)
      by_cases hlast:j+1=(X.length+1)
      · have dl:decide ((j:Int)<(X.length:Int))=false:=decide_eq_false (by omega)
        have il:¬ (j:Int)<(X.length:Int):=by omega
        have HLAST:=hid hlast
        clear hlast
        go_wp2_with fail
        have hlast:=HLAST.out
        have q:=HK.out.set j (.string (strB cur))
        have hr:=HRS.out cur
        rw [HOL.out] at hr
        rw [hr] at q
        have hpc2:=HPC.out
        go_ret
        refine ⟨some ⟨w.heap.size,0,none⟩,(X.length+1),(out++[cur]).map strB,?_,?_,HB.out.setCell (p:=⟨w.heap.size,j,none⟩) (Nat.le_refl _) _,?_⟩
        · have hlen:((out++[cur]).map strB).length=j+1:=by rw [List.length_map,List.length_append,HOL.out];rfl
          rw [hlen];rfl
        · have hlen:(out++[cur]).length=j+1:=by rw [List.length_append,HOL.out];rfl
          have qq:=Own.of_blk (B:=w.heap.size) (sz:=1) (n:=j+1) (c:=(X.length+1)) q (Nat.le_refl _) (by omega) (by unfold maxLen;omega) (by rw [rowN_len _ (by have:=HOL.out;simp;omega)];try omega)
          rw [Nat.mul_one,← hlen,rowN_take] at qq
          show Own _ _ _ 1 _ ((out++[cur]).map strB).length _ _
          rw [List.length_map]
          exact qq
        · rcases slash_cases cur with ⟨_,hno⟩ | ⟨k,hk1,hk2,hk3,hk4⟩
          · have hp:=pieces_none hno
            rw [hp] at hpc2
            exact .inl ⟨by rw [hpc2],by rw [List.length_map,List.length_append,HOL.out];simp;omega⟩
          · refine .inr ⟨?_,strB cur,by simp,by rw [strB_data,hk4];simp⟩
            have hp:=pieces_at (cur.take k) (cur.drop (k+1)) hk3
            rw [← hk4] at hp
            rw [hp] at hpc2
            have h1:(pieces X).length=out.length+(1+(pieces (cur.drop (k+1))).length):=by rw [hpc2];simp;omega
            have h2:=List.length_pos_iff.2 (pieces_ne (cur.drop (k+1)))
            have h3:=HOL.out
            have h4:=pieces_le X
            omega
      · have dl:decide ((j:Int)<(X.length:Int))=true:=decide_eq_true (by omega)
        have il:(j:Int)<(X.length:Int):=by omega
        rcases slash_cases cur with ⟨hm,hno⟩ | ⟨k,hm,hk2,hk3,hk4⟩
        · rw [strB_data,hm] at HI
          have HNO:=hid hno
          clear hno hm
          go_wp2_with (go_at_call 110;refine (HI.out _).mono ?_;rintro e w2 ⟨rfl,rfl⟩)
          have q:=HK.out.set j (.string (strB cur))
          have hr:=HRS.out cur
          rw [HOL.out] at hr
          rw [hr] at q
          have hpc2:=HPC.out
          go_ret
          refine ⟨some ⟨w.heap.size,0,none⟩,(X.length+1),(out++[cur]).map strB,?_,?_,HB.out.setCell (p:=⟨w.heap.size,j,none⟩) (Nat.le_refl _) _,?_⟩
          · have hlen:((out++[cur]).map strB).length=j+1:=by rw [List.length_map,List.length_append,HOL.out];rfl
            rw [hlen];rfl
          · have hlen:(out++[cur]).length=j+1:=by rw [List.length_append,HOL.out];rfl
            have qq:=Own.of_blk (B:=w.heap.size) (sz:=1) (n:=j+1) (c:=(X.length+1)) q (Nat.le_refl _) (by omega) (by unfold maxLen;omega) (by rw [rowN_len _ (by have:=HOL.out;simp;omega)];try omega)
            rw [Nat.mul_one,← hlen,rowN_take] at qq
            show Own _ _ _ 1 _ ((out++[cur]).map strB).length _ _
            rw [List.length_map]
            exact qq
          · have hp:=pieces_none HNO.out
            rw [hp] at hpc2
            exact .inl ⟨by rw [hpc2],by rw [List.length_map,List.length_append,HOL.out];simp;omega⟩
        · rw [strB_data,hm] at HI
          have hp:=pieces_at (cur.take k) (cur.drop (k+1)) hk3
          rw [← hk4] at hp
          have HP:=hid hp
          have x1:=ext_head cur k
          have x2:=ext_tail cur (k+1)
          have ik:(k:Int)<cur.length:=by omega
          have ik2:(k:Int)+1≤cur.length:=by omega
          clear hk4 hk3 hm hp
          go_wp2_with (go_at_call 110;refine (HI.out _).mono ?_;rintro e w2 ⟨rfl,rfl⟩)
          go_roundw
          case rel=>
            refine ⟨j+1,cur.drop (k+1),out++[cur.take k],by omega,rfl,by go_num,by rw [List.length_append,HOL.out];rfl,by rw [HPC.out,HP.out,List.append_assoc];rfl,by rw [List.length_drop];omega,?_,HB.out.setCell (p:=⟨w.heap.size,j,none⟩) (Nat.le_refl _) _⟩
            have q:=HK.out.set j (.string (strB (cur.take k)))
            have hr:=HRS.out (cur.take k)
            rw [HOL.out] at hr
            rw [hr] at q
            exact q
          case measure=>simp [intOf];omega
end Go.Proofs.YtpdjnefgkcmdnaaGreatDoor
