/- Parts of the proof. -/
import Derived.Test.YtjgajoljgepioaaGreatQad
namespace Go.Proofs.YtjgajoljgepioaaGreat
open Go.RowKit
set_option linter.unusedSimpArgs false
set_option linter.unusedVariables false
set_option linter.unusedSectionVars false
set_option maxRecDepth 100000
set_option maxHeartbeats 8000000
section
def AS (l:List UInt8):Value:=.string ⟨l.toArray⟩
theorem Kh (l:List UInt8):(⟨l.toArray⟩:ByteArray).size=l.length:=by simp [ByteArray.size]
def pkC (P:PkM) (a:Option Addr) (n c:Nat):List Value:=
  [ν (P.I 0),ν (P.I 1),ν (P.I 2),ν (P.I 3),ν (P.I 4),ν (P.I 5),ν (P.I 6),AS (P.S 7),ν (P.I 8),ν (P.I 9),ν (P.I 10),AS (P.S 11),AS (P.S 12),
   ν (P.I 13),ν (P.I 14),ν (P.I 15),ν (P.I 16),AS (P.S 17),ν (P.I 18),ν (P.I 19),ν (P.I 20),ν (P.I 21),AS (P.S 22),.slice a n c,ν (P.I 24),ν (P.I 25),ν (P.I 26),
   ν (P.I 27),ν (P.I 28),ν (P.I 29),ν (P.I 30),ν (P.I 31),ν (P.I 32),ν (P.I 33),ν (P.I 34),ν (P.I 35),ν (P.I 36),ν (P.I 37),ν (P.I 38),ν (P.I 39),ν (P.I 40),ν (P.I 41),ν (P.I 42)]
def Hg (o:Nat):Bool:=o == 7||o == 11||o == 12||o == 17||o == 22
def DT (o:Nat):Bool:=decide (o<43)&&!Hg o&&o != 23
theorem Vu (P:PkM) (a:Option Addr) (n c:Nat) {o:Nat} (h:DT o=true):(pkC P a n c)[o]? = some (ν (P.I o)):=by
  have ho:o<43:=by simp [DT] at h;omega
  rcases (ω:o=0∨o=1∨o=2∨o=3∨o=4∨o=5∨o=6∨o=7∨o=8∨o=9∨o=10∨o=11∨o=12∨o=13∨o=14∨o=15∨o=16∨o=17∨o=18∨o=19∨o=20∨o=21∨o=22∨o=23∨o=24∨o=25∨o=26∨o=27∨o=28∨o=29∨o=30∨o=31∨o=32∨o=33∨o=34∨o=35∨o=36∨o=37∨o=38∨o=39∨o=40∨o=41∨o=42) with e | e | e | e | e | e | e | e | e | e | e | e | e | e | e | e | e | e | e | e | e | e | e | e | e | e | e | e | e | e | e | e | e | e | e | e | e | e | e | e | e | e | e<;>subst e<;>first | rfl | (exact absurd h (by decide))
theorem Ri (P:PkM) (a:Option Addr) (n c:Nat) {o:Nat} (h:Hg o=true):(pkC P a n c)[o]? = some (AS (P.S o)):=by
  simp [Hg] at h
  rcases h with (((e | e) | e) | e) | e<;>subst e<;>rfl
theorem LD (P:PkM) (a:Option Addr) (n c:Nat) {o:Nat} (h:Hg o=true) (s:List UInt8):(pkC P a n c).set o (AS s)=pkC (Pn P o s) a n c:=by
  simp [Hg] at h
  rcases h with (((e | e) | e) | e) | e<;>subst e<;>simp [pkC,Pn]
theorem Bz (P:PkM) (a:Option Addr) (n c:Nat) {o:Nat} (h:DT o=true) (v:Int):(pkC P a n c).set o (ν v)=pkC (Ck P o v) a n c:=by
  have ho:o<43:=by simp [DT] at h;omega
  rcases (ω:o=0∨o=1∨o=2∨o=3∨o=4∨o=5∨o=6∨o=7∨o=8∨o=9∨o=10∨o=11∨o=12∨o=13∨o=14∨o=15∨o=16∨o=17∨o=18∨o=19∨o=20∨o=21∨o=22∨o=23∨o=24∨o=25∨o=26∨o=27∨o=28∨o=29∨o=30∨o=31∨o=32∨o=33∨o=34∨o=35∨o=36∨o=37∨o=38∨o=39∨o=40∨o=41∨o=42) with e | e | e | e | e | e | e | e | e | e | e | e | e | e | e | e | e | e | e | e | e | e | e | e | e | e | e | e | e | e | e | e | e | e | e | e | e | e | e | e | e | e | e<;>subst e<;>first | (exact absurd h (by decide)) | (simp [pkC,Ck])
structure WM where
  b:List UInt8
  no:Bool
def wnum (m:WM) (n:Int) (k:Nat) (lo hi:Int):WM:=if AX n k=true∧lo≤n∧n≤hi then ⟨m.b++le k n.toNat,m.no⟩ else ⟨m.b,true⟩
def wtext (m:WM) (s:List UInt8) (k most:Nat):WM:=let m':=wnum m s.length k 0 most;⟨m'.b++s,m'.no⟩
def WIn (w:World) (g B:Nat) (m:WM):Prop:=∃ a c,Blk w g 136 [.slice a m.b.length c,.bool m.no]∧Ek w B a c m.b
end
section
theorem Di {w:World} {B g:Nat} {e t:TypeId} {sz:Nat} {a:Option Addr} {n c:Nat} {cs L:List Value} (h:Own w B e sz a n c cs) (hb:Blk w g t L) (hne:e≠t) (i:Nat) (v:Value):Own (w.setCell ⟨g,i,none⟩ v) B e sz a n c cs:=by
  have t1:Turns (fun k=>k=g) w (w.setCell ⟨g,i,none⟩ v):=(Turns.refl (fun k=>k=g) w).setCell (p:=⟨g,i,none⟩) rfl v
  refine ⟨h.1,?_⟩
  rcases h.2 with hn | ⟨b,cap,cur,hv,hB,hh,rest⟩
  · exact .inl hn
  · refine .inr ⟨b,cap,cur,hv,hB,(t1.block b (Array.getElem?_eq_some_iff.1 hh).1 (fun q=>?_)).trans hh,rest⟩
    subst q
    unfold Blk at hb
    rw [hb] at hh
    simp at hh
    exact hne hh.2.symm
theorem IG {B:Nat} {w w':World} (h:Below B w w') {g:Nat} (hg:B≤g) (i:Nat) (v:Value):Below B w (w'.setCell ⟨g,i,none⟩ v):=
  ⟨h.os,h.tape,h.output,by simp [World.setCell];exact h.size,fun k hk=>(Below.heap_setCell _ _ _ _ (by rintro rfl;omega)).trans (h.block k hk)⟩
theorem As {w:World} {g B:Nat} {m:WM} (h:WIn w g B m) (hB:B≤g) (hl:m.b.length≤10000000000000) (n lo hi:Int) (k:Nat) (hn9:n≤9223372036854775807) :
    Calls Tryz.prog 83 #[π g,ν n,ν k,ν lo,ν hi] w fun e w'=>e=.returned (.tuple #[])∧WIn w' g B (wnum m n k lo hi)∧Below B w w':=by
  obtain ⟨a,c,hb,ho⟩:=h
  have c0:=hb.cell (i:=0) (by simp)
  have c1:=hb.cell (i:=1) (by simp)
  have f0:=hb.frozen 0
  have f1:=hb.frozen 1
  simp only [List.getElem_cons_zero,List.getElem_cons_succ] at c0 c1
  have hgl:=hb.lt
  by_cases hok:AX n k=true∧lo≤n∧n≤hi
  · have hE:wnum m n k lo hi=⟨m.b++le k n.toNat,m.no⟩:=by unfold wnum;rw [if_pos hok]
    have hF:DK m.b n k=m.b++le k n.toNat:=by unfold DK;rw [if_pos hok.1];rfl
    obtain ⟨ys,hys⟩:∃ ys,ys=m.b++le k n.toNat:=⟨_,rfl⟩
    rw [← hys] at hE hF
    rw [hE]
    obtain ⟨hf,h1,h2⟩:=hok
    have d1:decide (n<lo)=false:=decide_eq_false ω
    have d2:decide (hi<n)=false:=decide_eq_false ω
    have HP:=hid (Je a c m.b n k w ho.row ω hn9)
    rw [hF] at HP
    have HO:=hid ho;have HB:=hid hb;have HFi:=hid (FL n k w)
    rw [hf] at HFi
    clear hE hF ho hb h1 h2 hf hys
    go_enter Tryz.func83,Tryz.ntmps83
    go_wp2_with fail
    refine HFi.out.mono ?_
    rintro e w1 ⟨rfl,rfl⟩
    go_wp2_with fail
    refine HP.out.mono ?_
    rintro e w2 ⟨a2,c2,rfl,o2,b2⟩
    have hb2:=HB.out.mono b2
    have x0:=hb2.cell (i:=0) (by simp)
    have g0:=hb2.frozen 0
    simp only [List.getElem_cons_zero] at x0
    have O2:=hid o2;have B2:=hid b2;have HB2:=hid hb2
    have hBw:B≤w.heap.size:=ω
    clear o2 b2 hb2
    go_wp2_with fail
    go_end0
    refine ⟨rfl,⟨a2,c2,?_,?_⟩,IG (B2.out.mono hBw) hB 0 _⟩
    · exact Blk.set HB2.out 0 (.slice a2 ys.length c2)
    · exact Own.low (Di O2.out HB2.out (by decide) 0 _) hBw
  · have hE:wnum m n k lo hi=⟨m.b,true⟩:=by unfold wnum;rw [if_neg hok]
    rw [hE]
    have hfin:WIn (w.setCell ⟨g,1,none⟩ (.bool true)) g B ⟨m.b,true⟩:=⟨a,c,Blk.set hb 1 (.bool true),Di ho hb (by decide) 1 _⟩
    have hbel:Below B w (w.setCell ⟨g,1,none⟩ (.bool true)):=IG (Below.refl _ _) hB 1 _
    have hFi:=FL n k w
    have HFin:=hid hfin;have HBel:=hid hbel
    clear hE hfin hbel hb ho
    rcases (by
      by_cases hf:AX n k=true
      · by_cases h1:n<lo
        · exact .inr (.inl ⟨hf,decide_eq_true h1⟩)
        · exact .inr (.inr ⟨hf,decide_eq_false h1,decide_eq_true (by
            by_cases h2:n≤hi
            · exact absurd ⟨hf,ω,h2⟩ hok
            · omega)⟩)
      · exact .inl (by simpa using hf):AX n k=false∨(AX n k=true∧decide (n<lo)=true)∨(AX n k=true∧decide (n<lo)=false∧decide (hi<n)=true)) with hf | ⟨hf,d1⟩ | ⟨hf,d1,d2⟩
    all_goals
      rw [hf] at hFi
      have HFi:=hid hFi
      clear hFi hok hf
      go_enter Tryz.func83,Tryz.ntmps83
      go_wp2_with fail
      refine HFi.out.mono ?_
      rintro e w1 ⟨rfl,rfl⟩
      go_wp2_with fail
      refine bodyPost_ret (results_none rfl _ _ _) rfl ?_
      exact ⟨rfl,HFin.out,HBel.out⟩
theorem KX {w w':World} {B g:Nat} {e t:TypeId} {sz:Nat} {a:Option Addr} {n c:Nat} {cs L:List Value} (ho:Own w B e sz a n c cs) (hb:Blk w g t L) (G:w.grownBy w' (Value.slice a n c).ownBlock) (hne:e≠t):Blk w' g t L:=by
  refine (G.block g hb.lt (fun q=>?_)).trans hb
  rcases ho.2 with ⟨hv,_⟩ | ⟨b,cap,cur,hv,hB,hh,rest⟩
  · rw [hv] at q;cases q
  · rw [hv] at q
    have:g=b:=by simpa [Value.ownBlock] using q
    subst this
    unfold Blk at hb
    rw [hb] at hh
    simp at hh
    exact hne hh.2.symm
theorem Gz {w:World} {g B:Nat} {m:WM} (h:WIn w g B m) (hB:B≤g) (hl:m.b.length≤9000000000000) (s:List UInt8) (hs:s.length≤1100000) (k most:Nat) (hk:k≤8) :
    Calls Tryz.prog 84 #[π g,AS s,ν k,ν most] w fun e w'=>e=.returned (.tuple #[])∧WIn w' g B (wtext m s k most)∧Below B w w':=by
  have t1:True:=trivial
  have HN:=hid (As h hB ω s.length 0 most k ω)
  have hlen:(wnum m s.length k 0 most).b.length≤10000000000000:=by
    unfold wnum;split
    · simp [AH];omega
    · show m.b.length≤_;omega
  obtain ⟨m',hm'⟩:∃ m',m'=wnum m s.length k 0 most:=⟨_,rfl⟩
  have hE:wtext m s k most=⟨m'.b++s,m'.no⟩:=by rw [hm'];rfl
  rw [hE]
  rw [← hm'] at HN hlen
  have hsz:=Kh s
  clear hE hm' h
  unfold AS
  obtain ⟨st,hst⟩:∃ st:ByteArray,st=⟨s.toArray⟩:=⟨_,rfl⟩
  have hsl:st.data.toList=s:=by rw [hst]
  rw [← hst] at hsz ⊢
  have hss:¬ (9223372036854775807<st.size):=ω
  rw [← hsz] at HN
  have HSL:=hid hsl;have HSZ:=hid hsz
  clear hst hsl hsz
  go_enter Tryz.func84,Tryz.ntmps84
  go_wp2_with fail
  refine HN.out.mono ?_
  rintro e w1 ⟨rfl,⟨a,c,hb,ho⟩,b1⟩
  have c0:=hb.cell (i:=0) (by simp)
  simp only [List.getElem_cons_zero] at c0
  have HB1:=hid hb;have HO1:=hid ho;have B1:=hid b1
  have hBw:B≤w1.heap.size:=by have:=hb.lt;omega
  clear hb ho b1
  have hst:st.size≤1100000:=by rw [HSZ.out];exact hs
  go_wp2_with (first
    | (at_builtin;have _t:=t1;refine Mc rfl (.tmp 18) (.tmp 19) rfl υ60 υ9 Re B rfl rfl HO1.out ω hBw ?_;clear t1;intro a2 c2 w2 o2 g2 b2;have O2:=hid o2;have B2:=hid b2;have hb2:=KX HO1.out HB1.out g2 (by decide);have x0:=hb2.cell (i:=0) (by simp);have f0:=hb2.frozen 0;simp only [List.getElem_cons_zero] at x0;have HB2:=hid hb2;clear o2 g2 b2 hb2))
  go_end0
  have o3:=O2.out
  rw [HSL.out,← List.map_append] at o3
  have o4:Ek w2 B a2 c2 (m'.b++s):=by
    have:m'.b.length+st.size=(m'.b++s).length:=by rw [HSZ.out];simp
    rw [this] at o3;exact o3
  have hn:m'.b.length+st.size=(m'.b++s).length:=by rw [HSZ.out];simp
  refine ⟨rfl,⟨a2,c2,?_,Di o4 HB2.out (by decide) 0 _⟩,IG (B1.out.trans B2.out) hB 0 _⟩
  show Blk _ g _ [.slice a2 (m'.b++s).length c2,.bool m'.no]
  rw [← hn]
  exact Blk.set HB2.out 0 (.slice a2 (m'.b.length+st.size) c2)
end
section
def Pb (xs:List UInt8) (at_:Nat) (no:Bool) (k:Nat):Nat×Nat×Bool:=match Bp xs at_ k with
  | some v=>(v,at_+k,no)
  | none=>(0,at_,true)
def XL (xs:List UInt8) (at_:Nat) (no:Bool) (k:Nat):List UInt8×Nat×Bool:=
  if (Pb xs at_ no k).2.2=true∨xs.length<(Pb xs at_ no k).2.1+(Pb xs at_ no k).1 then ([],(Pb xs at_ no k).2.1,true) else ((xs.drop (Pb xs at_ no k).2.1).take (Pb xs at_ no k).1,(Pb xs at_ no k).2.1+(Pb xs at_ no k).1,false)
theorem Un {w:World} {b off c:Nat} {xs:List UInt8} (h:BB w (some ⟨b,off,none⟩) c xs) (lo n:Nat) (hn:lo+n≤xs.length) {dp:Option Addr} (hd:(if c=lo then (some ⟨b,off,none⟩:Option Addr) else some ⟨b,off+lo,none⟩)=dp) :
    BB w dp (c-lo) ((xs.drop lo).take n)∧((xs.drop lo).take n).length=n:=by
  have hl:((xs.drop lo).take n).length=n:=by simp;omega
  refine ⟨?_,hl⟩
  by_cases h4:c=lo
  · have h2:=h.2.1
    have h3:=h.2.2.1
    obtain rfl:n=0:=ω
    rw [if_pos h4] at hd
    refine ⟨by simp,by rw [hl];exact Nat.zero_le _,ω,(fun q=>by rw [q] at hd;cases hd),fun q=>absurd q (by rw [hl];omega)⟩
  · rw [if_neg h4] at hd
    rw [← hd]
    exact Ul h lo n hn
theorem Cq {w:World} {g:Nat} {x0 x1 x2:Value} {wr:Bool} (h:Blk w g 107 [x0,x1,x2,.bool wr]) (ok:Bool) :
    Calls Tryz.prog 68 #[π g,.bool ok] w fun e w'=>e=.returned (.tuple #[])∧w'=w.setCell ⟨g,3,none⟩ (.bool (wr||!ok)):=by
  have c3:=h.cell (i:=3) (by simp)
  have f3:=h.frozen 3
  simp only [List.getElem_cons_zero,List.getElem_cons_succ] at c3
  cases wr<;>cases ok
  all_goals
    go_enter Tryz.func68,Tryz.ntmps68
    go_wp2_with fail
    go_end0
    exact ⟨rfl,rfl⟩
def AD (k:Nat) (m:WM) (v:Int):WM:=if m.no=true then m else ⟨DK m.b v k,!AX v k⟩
theorem Sj (k:Nat) (vs:List Int) (m:WM) (h:m.no=true):vs.foldl (AD k) m=m:=by
  induction vs with
  | nil=>rfl
  | cons v vs ih=>show vs.foldl (AD k) (AD k m v)=m;rw [show AD k m v=m from if_pos h];exact ih
theorem OR (b:List UInt8) (v:Int) (k:Nat):(DK b v k).length≤b.length+k:=by
  unfold DK;split
  · simp [AH]
  · omega
def CoP (w:World) (g B:Nat) (m:WM):Prop:=∃ a c,Blk w g 107 [.bool true,.slice a m.b.length c,ν 0,.bool m.no]∧Ek w B a c m.b
theorem CH (k:Nat) (vs:List Int) (m:WM):(vs.foldl (AD k) m).b.length≤m.b.length+k*vs.length:=by
  induction vs generalizing m with
  | nil=>simp
  | cons v vs ih=>
    have h1:=ih (AD k m v)
    have h2:(AD k m v).b.length≤m.b.length+k:=by
      unfold AD;split
      · omega
      · exact OR _ _ _
    simp only [List.foldl_cons,List.length_cons,Nat.mul_add,Nat.mul_one] at *
    omega
theorem AG {w:World} (g i:Nat) (v:Value):Turns (fun k=>k=g) w (w.setCell ⟨g,i,none⟩ v):=(Turns.refl (fun k=>k=g) w).setCell (p:=⟨g,i,none⟩) rfl v
theorem ES {w:World} {g B:Nat} {m:WM} (h:CoP w g B m) (hBw:B≤w.heap.size) (k:Nat) (hk:k≤8) (fa:Option Addr) (fc f:Nat) (os:List Nat) (vs:List Int) (hov:os.length=vs.length) (hfew:os.length≤10) (hl:m.b.length≤1000000) (hr:Row w 1 fa os.length fc (os.map fun o=>.pointer (some ⟨f,o,none⟩)))
    (hfa:0<os.length→∀ b,(∃ off,fa=some ⟨b,off,none⟩)→b≠g) (hf:f≠g) (hfl:f<w.heap.size) (hv:∀ i,i<os.length→w.cell? ⟨f,os.getD i 0,none⟩=some (ν (vs.getD i 0))∧vs.getD i 0≤9223372036854775807) :
    Calls Tryz.prog 67 #[π g,ν k,.slice fa os.length fc] w fun e w'=>e=.returned (.tuple #[])∧CoP w' g B (vs.foldl (AD k) m)∧Turns (fun x=>x=g) w w':=by
  have HR:=hid hr;have HFA:=hid hfa;have HV:=hid hv;have H:=hid h;have HOV:=hid hov
  clear hr hfa hv h hov
  obtain ⟨n,hn⟩:∃ n,n=os.length:=⟨_,rfl⟩
  rw [← hn] at hfew ⊢
  have HN:=hid hn
  clear hn
  go_enter Tryz.func67,Tryz.ntmps67
  go_wp2_with fail
  go_loopw [11] (fun i wr=>∃ j:Nat,j≤n∧i=ν j∧CoP wr g B ((vs.take j).foldl (AD k) m)∧Turns (fun x=>x=g) w wr) (fun i _=>n-(intOf i).toNat)
  case atStart=>exact ⟨0,Nat.zero_le _,rfl,H.out,Turns.refl _ _⟩
  case round=>
    obtain ⟨j,hj,rfl,hm,ht⟩:=hrel
    by_cases hlt:j<n
    · have d0:decide ((j:Int)<(n:Int))=true:=decide_eq_true ω
      have hjo:j<os.length:=by have:=HN.out;omega
      have hjv:j<vs.length:=by have:=HOV.out;omega
      have hlen:=CH k (vs.take j) m
      have hlen2:((vs.take j).foldl (AD k) m).b.length≤1000080:=by
        have:(vs.take j).length≤10:=by rw [List.length_take];omega
        have h8:k*(vs.take j).length≤80:=Nat.mul_le_mul hk this
        omega
      have hstep:(vs.take (j+1)).foldl (AD k) m=AD k ((vs.take j).foldl (AD k) m) (vs.getD j 0):=by
        rw [List.take_add_one,List.foldl_append]
        simp [hjv]
      have hstop:=Sj k (vs.drop j) ((vs.take j).foldl (AD k) m)
      have hall:vs.foldl (AD k) m=(vs.drop j).foldl (AD k) ((vs.take j).foldl (AD k) m):=by
        rw [← List.foldl_append,List.take_append_drop]
      obtain ⟨ra,roff,rfl,hrl,hrc⟩:=HR.out.at ω
      have hrg:=HFA.out ω ra ⟨roff,rfl⟩
      have p0:wr.cell? ⟨ra,roff+j,none⟩=some (.pointer (some ⟨f,os.getD j 0,none⟩)):=(World.cell?_of_block (ht.block ra hrl hrg)).trans (hrc j _ (by simp [hjo]))
      have p1:wr.cell? ⟨f,os.getD j 0,none⟩=some (ν (vs.getD j 0)):=(World.cell?_of_block (ht.block f hfl hf)).trans (HV.out j hjo).1
      have hv9:=(HV.out j hjo).2
      generalize vs.getD j 0=v at *
      generalize os.getD j 0=o at *
      generalize (vs.take j).foldl (AD k) m=m1 at *
      have HST:=hid hstep;have HSTOP:=hid hstop;have HT:=hid ht;have HALL:=hid hall
      clear hstep hall hlen hstop ht hrc hjo hjv
      obtain ⟨a,c,hb,ho⟩:=hm
      have c0:=hb.cell (i:=0) (by simp)
      have c1:=hb.cell (i:=1) (by simp)
      have c3:=hb.cell (i:=3) (by simp)
      simp only [List.getElem_cons_zero,List.getElem_cons_succ] at c0 c1 c3
      by_cases hno:m1.no=true
      · have HM:=hid (show CoP wr g B m1 from ⟨a,c,hb,ho⟩)
        have HNO:=hid hno
        rw [hno] at c3
        clear hb ho hno
        go_wp2_with fail
        (try simp only [Exit.inBlock,Exit.then])
        refine bodyPost_ret (results_none rfl _ _ _) rfl ?_
        refine ⟨rfl,?_,HT.out⟩
        rw [HALL.out,HSTOP.out HNO.out];exact HM.out
      · have hno':m1.no=false:=by simpa using hno
        rw [hno'] at c3 hb
        have hE:AD k m1 v=⟨DK m1.b v k,!AX v k⟩:=if_neg hno
        clear hno
        have hck:=Cq hb (AX v k)
        rw [Bool.false_or] at hck
        have HCK:=hid hck;have HB:=hid hb;have HO:=hid ho;have HE:=hid hE
        have HF:=hid (Fk v k wr)
        clear hck hb ho hE hno'
        go_wp2_with fail
        refine HF.out.mono ?_
        rintro e w1 ⟨rfl,rfl⟩
        go_wp2_with fail
        refine HCK.out.mono ?_
        rintro e w1 ⟨rfl,hw1⟩
        have hb1:Blk w1 g 107 [.bool true,.slice a m1.b.length c,ν 0,.bool (!AX v k)]:=by rw [hw1];exact Blk.set HB.out 3 _
        have t1:Turns (fun x=>x=g) wr w1:=by rw [hw1];exact AG g 3 _
        have o1:Ek w1 B a c m1.b:=by rw [hw1];exact Di HO.out HB.out (by decide) 3 _
        have y1:=hb1.cell (i:=1) (by simp)
        simp only [List.getElem_cons_zero,List.getElem_cons_succ] at y1
        have y2:w1.cell? ⟨f,o,none⟩=some (ν v):=(World.cell?_of_block (t1.block f (Nat.lt_of_lt_of_le hfl HT.out.size) hf)).trans p1
        have HP:=hid (fun X (b:Below w1.heap.size w1 X)=>Rk a c m1.b v k X (o1.row.mono b) ω hv9)
        have HB1:=hid hb1;have T1:=hid (HT.out.trans t1)
        have hBs:B≤w1.heap.size:=by have:=HT.out.size;have:=t1.size;omega
        clear hw1 hb1 t1 o1 c0 c1 c3 p0 p1
        go_wp2_with fail
        go_region_with (go_at_call 52;refine (HP.out _ (Av (Below.refl _ _) 1)).mono ?_;rintro e w2 ⟨a2,c2,rfl,o2,b2⟩;have O2:=hid o2;have B2:=hid (Am (Av (Below.refl _ _) 1) b2);have HB2:=hid (HB1.out.mono (Am (Av (Below.refl _ _) 1) b2));have z1:=HB2.out.cell (i:=1) (by simp);have z2:=HB2.out.frozen 1;simp only [List.getElem_cons_zero,List.getElem_cons_succ] at z1;clear o2 b2)
        all_goals
          go_wp2_with fail
          go_roundw
          case rel=>
            refine ⟨j+1,ω,by go_num,?_,T1.out.trans ((Turns.of_below B2.out).trans (AG g 1 _))⟩
            rw [HST.out,HE.out]
            exact ⟨a2,c2,Blk.set HB2.out 1 (.slice a2 (DK m1.b v k).length c2),Own.low (Di O2.out HB2.out (by decide) 1 _) hBs⟩
          case measure=>simp [intOf];omega
    · have hje:j=n:=ω
      have d0:decide ((j:Int)<(n:Int))=false:=decide_eq_false ω
      have HM:=hid hm;have HT:=hid ht
      clear hm ht
      go_wp2_with fail
      go_end0
      refine ⟨rfl,?_,HT.out⟩
      have:=HM.out
      rw [List.take_of_length_le (by have:=HN.out;have:=HOV.out;omega)] at this
      exact this
end
section
structure GM where
  at_:Nat
  no:Bool
  L:List Value
def BH (xs:List UInt8) (k:Nat) (s:GM) (o:Nat):GM:=if s.no=true then s else ⟨s.at_+k,!(Bp xs s.at_ k).isSome,s.L.set o (ν (((Bp xs s.at_ k).getD 0:Nat):Int))⟩
theorem Qe (xs:List UInt8) (k:Nat) (os:List Nat) (s:GM) (h:s.no=true):os.foldl (BH xs k) s=s:=by
  induction os with
  | nil=>rfl
  | cons v vs ih=>show vs.foldl (BH xs k) (BH xs k s v)=s;rw [show BH xs k s v=s from if_pos h];exact ih
def CoG (w:World) (g:Nat) (a:Option Addr) (c:Nat) (xs:List UInt8) (at_:Nat) (no:Bool):Prop:=Blk w g 107 [.bool false,.slice a xs.length c,ν (at_:Int),.bool no]
def MW (xs:List UInt8) (at_:Nat) (no:Bool):Prop:=at_≤xs.length+8∧(no=false→at_≤xs.length)
theorem TD {xs:List UInt8} {k:Nat} {s:GM} {o:Nat} (hk:k≤8) (h:MW xs s.at_ s.no):MW xs (BH xs k s o).at_ (BH xs k s o).no:=by
  unfold BH
  by_cases hn:s.no=true
  · rw [if_pos hn];exact h
  · rw [if_neg hn]
    have h2:=h.2 (by simpa using hn)
    refine ⟨by show s.at_+k≤_;omega,fun q=>?_⟩
    show s.at_+k≤_
    cases hv:Bp xs s.at_ k with
    | none=>simp [hv] at q
    | some v=>
      unfold Bp at hv
      split at hv
      · next h1=>omega
      · cases hv
theorem Sc (xs:List UInt8) (k:Nat) (s:GM) (o:Nat):(BH xs k s o).L.length=s.L.length:=by
  unfold BH;split
  · rfl
  · simp
theorem Ov {xs:List UInt8} {at_ k:Nat}:(((Bp xs at_ k).getD 0:Nat):Int)≤9223372036854775807:=by
  cases hv:Bp xs at_ k with
  | none=>simp
  | some v=>
    unfold Bp at hv
    split at hv
    · split at hv
      · next h2=>
        cases hv
        rw [Option.getD_some]
        exact Int.ofNat_le.2 h2
      · cases hv
    · cases hv
theorem ER {W0 w:World} {g:Nat} {a:Option Addr} {c:Nat} {xs:List UInt8} {s:GM} (h:CoG w g a c xs s.at_ s.no) (r0:BB W0 a c xs) (b0:Below W0.heap.size W0 w) (hg:W0.heap.size≤g) (hat:MW xs s.at_ s.no) (hl:xs.length≤1000000) (k:Nat) (hk:k≤8)
    (fa:Option Addr) (fc f:Nat) (Tf:TypeId) (os:List Nat) (hfew:os.length≤10) (hr:Row w 1 fa os.length fc (os.map fun o=>.pointer (some ⟨f,o,none⟩)))
    (hfa:0<os.length→∀ b,(∃ off,fa=some ⟨b,off,none⟩)→b≠g∧b≠f) (hfg:f≠g) (hf0:W0.heap.size≤f) (hf:Blk w f Tf s.L) (ho:∀ i,i<os.length→os.getD i 0<s.L.length) :
    Calls Tryz.prog 67 #[π g,ν k,.slice fa os.length fc] w fun e w'=>e=.returned (.tuple #[])∧CoG w' g a c xs (os.foldl (BH xs k) s).at_ (os.foldl (BH xs k) s).no∧MW xs (os.foldl (BH xs k) s).at_ (os.foldl (BH xs k) s).no∧Blk w' f Tf (os.foldl (BH xs k) s).L∧(os.foldl (BH xs k) s).L.length=s.L.length∧Turns (fun x=>x=g∨x=f) w w':=by
  have HR:=hid hr;have HFA:=hid hfa;have HO:=hid ho;have H:=hid h;have HF:=hid hf;have R0:=hid r0;have B0:=hid b0;have HAT:=hid hat
  have hgl:g<w.heap.size:=h.lt
  clear hr hfa ho h hf r0 b0 hat
  obtain ⟨n,hn⟩:∃ n,n=os.length:=⟨_,rfl⟩
  rw [← hn] at hfew ⊢
  have HN:=hid hn
  clear hn
  go_enter Tryz.func67,Tryz.ntmps67
  go_wp2_with fail
  go_loopw [11] (fun i wr=>∃ (j:Nat) (t:GM),j≤n∧i=ν j∧t=(os.take j).foldl (BH xs k) s∧CoG wr g a c xs t.at_ t.no∧MW xs t.at_ t.no∧Blk wr f Tf t.L∧t.L.length=s.L.length∧Turns (fun x=>x=g∨x=f) w wr) (fun i _=>n-(intOf i).toNat)
  case atStart=>exact ⟨0,s,Nat.zero_le _,rfl,rfl,H.out,HAT.out,HF.out,rfl,Turns.refl _ _⟩
  case round=>
    obtain ⟨j,t,hj,rfl,hts,hm,hta,hbf,htl,ht⟩:=hrel
    by_cases hlt:j<n
    · have d0:decide ((j:Int)<(n:Int))=true:=decide_eq_true ω
      have hjo:j<os.length:=by have:=HN.out;omega
      have hstep:(os.take (j+1)).foldl (BH xs k) s=BH xs k t (os.getD j 0):=by
        rw [List.take_add_one,List.foldl_append,hts]
        simp [hjo]
      have hall:os.foldl (BH xs k) s=(os.drop j).foldl (BH xs k) t:=by
        rw [hts,← List.foldl_append,List.take_append_drop]
      have hstop:=Qe xs k (os.drop j) t
      have hsa:=TD (o:=os.getD j 0) hk hta
      have hsl:=Sc xs k t (os.getD j 0)
      obtain ⟨ra,roff,rfl,hrl,hrc⟩:=HR.out.at ω
      obtain ⟨hrg,hrf⟩:=HFA.out ω ra ⟨roff,rfl⟩
      have p0:wr.cell? ⟨ra,roff+j,none⟩=some (.pointer (some ⟨f,os.getD j 0,none⟩)):=(World.cell?_of_block (ht.block ra hrl (fun q=>q.elim hrg hrf))).trans (hrc j _ (by simp [hjo]))
      have hoj:=HO.out j hjo
      generalize os.getD j 0=o at *
      have HST:=hid hstep;have HSTOP:=hid hstop;have HT:=hid ht;have HALL:=hid hall;have HSA:=hid hsa;have HSL:=hid hsl;have HTA:=hid hta;have HTL:=hid htl
      clear hstep hall hstop ht hrc hjo hts hsa hsl hta htl
      unfold CoG at hm
      have c0:=hm.cell (i:=0) (by simp)
      have c1:=hm.cell (i:=1) (by simp)
      have c2:=hm.cell (i:=2) (by simp)
      have c3:=hm.cell (i:=3) (by simp)
      simp only [List.getElem_cons_zero,List.getElem_cons_succ] at c0 c1 c2 c3
      by_cases hno:t.no=true
      · have HM:=hid (show CoG wr g a c xs t.at_ t.no from hm)
        have HNO:=hid hno;have HBF:=hid hbf
        rw [hno] at c3
        clear hm hno hbf
        go_wp2_with fail
        (try simp only [Exit.inBlock,Exit.then])
        refine bodyPost_ret (results_none rfl _ _ _) rfl ?_
        rw [HALL.out,HSTOP.out HNO.out]
        exact ⟨rfl,HM.out,HTA.out,HBF.out,HTL.out,HT.out⟩
      · have hno':t.no=false:=by simpa using hno
        rw [hno'] at c3 hm
        have hE:BH xs k t o=⟨t.at_+k,!(Bp xs t.at_ k).isSome,t.L.set o (ν (((Bp xs t.at_ k).getD 0:Nat):Int))⟩:=if_neg hno
        have hat2:=HTA.out.2 hno'
        clear hno
        have hr9:Below W0.heap.size W0 wr:=B0.out.trans (HT.out.below (Nat.le_trans (Nat.le_refl _) B0.out.size) (fun x hx=>by rcases hx with e | e<;>rw [e]<;>assumption))
        have hG:=fun X (b:Below wr.heap.size wr X)=>Vb a c xs t.at_ k X ((R0.out.mono hr9).mono b) ω
        unfold IB at hG
        have hv9:=Ov (xs:=xs) (at_:=t.at_) (k:=k)
        generalize (Bp xs t.at_ k).isSome=ok at *
        generalize (Bp xs t.at_ k).getD 0=v at *
        obtain ⟨old,p1⟩:=Blk.someCell hbf (i:=o) (by have:=HTL.out;omega)
        have p2:=Blk.frozen hbf o
        have HG:=hid hG;have HB:=hid hm;have HE:=hid hE;have HBF:=hid hbf
        generalize t.at_=q at *
        clear hG hm hE hno' hbf
        go_wp2_with fail
        go_region_with (go_at_call 90;refine (HG.out _ (Av (Below.refl _ _) 1)).mono ?_;rintro e w2 ⟨rfl,rfl⟩)
        all_goals
          go_wp2_with fail
          have hwd:Below wr.heap.size wr (wr.drewN 1):=Av (Below.refl _ _) 1
          have tf:Turns (fun x=>x=f) (wr.drewN 1) ((wr.drewN 1).setCell ⟨f,o,none⟩ (ν (v:Int))):=AG f o _
          have hb2:=tf.blk (HB.out.mono hwd) (fun q=>hfg q.symm)
          have hf2:Blk ((wr.drewN 1).setCell ⟨f,o,none⟩ (ν (v:Int))) f Tf (t.L.set o (ν (v:Int))):=Blk.set (HBF.out.mono hwd) o _
          refine (Cq hb2 ok).mono ?_
          rintro e w3 ⟨rfl,hw3⟩
          rw [Bool.false_or] at hw3
          have hb3:Blk w3 g 107 [.bool false,.slice a xs.length c,ν (q:Int),.bool (!ok)]:=by rw [hw3];exact Blk.set hb2 3 _
          have t3:Turns (fun x=>x=g) ((wr.drewN 1).setCell ⟨f,o,none⟩ (ν (v:Int))) w3:=by rw [hw3];exact AG g 3 _
          have HF3:=hid (t3.blk hf2 hfg)
          have T3:=hid ((HT.out.trans ((Turns.of_below hwd).trans (tf.mono (fun _ q=>.inr q)))).trans (t3.mono (fun _ q=>.inl q)))
          have y2:=hb3.cell (i:=2) (by simp)
          have z2:=hb3.frozen 2
          simp only [List.getElem_cons_zero,List.getElem_cons_succ] at y2
          have HB3:=hid hb3
          clear hwd tf hb2 hf2 hw3 hb3 t3 c0 c1 c2 c3 p0 p1 p2
          go_wp2_with fail
          go_roundw
          case rel=>
            refine ⟨j+1,BH xs k t o,ω,by go_num,HST.out.symm,?_,HSA.out,?_,HSL.out.trans HTL.out,T3.out.trans ((AG g 2 _).mono (fun _ q=>.inl q))⟩
            · rw [HE.out]
              show Blk _ g _ [.bool false,.slice a xs.length c,ν ((q+k:Nat):Int),.bool (!ok)]
              rw [Int.natCast_add]
              exact Blk.set HB3.out 2 (ν ((q:Int)+(k:Int)))
            · rw [HE.out]
              exact (AG g 2 _).blk HF3.out hfg
          case measure=>simp [intOf];omega
    · have hje:j=n:=ω
      have d0:decide ((j:Int)<(n:Int))=false:=decide_eq_false ω
      have HM:=hid hm;have HT:=hid ht;have HTS:=hid hts;have HBF:=hid hbf;have HTA:=hid hta;have HTL:=hid htl
      clear hm ht hts hbf hta htl
      go_wp2_with fail
      go_end0
      have e:=HTS.out
      rw [List.take_of_length_le (by have:=HN.out;omega)] at e
      rw [← e]
      exact ⟨rfl,HM.out,HTA.out,HBF.out,HTL.out,HT.out⟩
end
section
theorem Turns.of_belowW {B:Nat} {X Y:World} (h:Below B X Y):Turns (fun k=>B≤k) X Y:=⟨h.os,h.tape,h.output,h.size,fun k _ hn=>h.block k ω⟩
def Cu (k most:Nat) (m:WM) (s:List UInt8):WM:=if (AD k m s.length).no=true∨most<s.length then ⟨(AD k m s.length).b,true⟩ else ⟨(AD k m s.length).b++s,false⟩
theorem KC {P:Program} {ops:Array Oper} {o:Oper} {act:Act} {w:World} {K:Act→World→Prop} {Q:Exit→Act→World→Prop} {E:Prop} (hgd:o.guard=none) (s x:Operand) {t u e:TypeId}
    (ho:o.op=.call { callee:=.builtin .append,args:=#[s,x],argTypes:=#[t,u] }) (under:P.underlying t=some (.slice e)) (hu:P.underlying u=some .string) (hinfo:(P.info? e).map (fun i=>(i.zero,i.size,i.bytes))=some (some (.int .u8 0),1,1)) (B:Nat)
    {a1:Option Addr} {n c:Nat} {st:ByteArray} {cs:List Value} (hs:act.eval s=.slice a1 n c) (hx:act.eval x=.string st)
    (hown:Own w B e 1 a1 n c cs) (hbytes:n+st.size≤140737488355328) (hbase:B≤w.heap.size)
    (h:∀ a' c' w',Own w' B e 1 a' (n+st.size) c' (cs++st.data.toList.map Ap)→w.grownBy w' (Value.slice a1 n c).ownBlock→Below B w w'→K (act.put o.dst (.slice a' (n+st.size) c')) w') :
    if Region.wanted o (yielded ops act.tmps)=true then Oper.wp P o act w K Q else E:=by
  have hw:Region.wanted o (yielded ops act.tmps)=true:=by simp [Region.wanted,hgd]
  rw [if_pos hw]
  obtain ⟨i,hi,hz,hsz,hby⟩:=info_parts hinfo
  have hlt:∀ k,(Value.slice a1 n c).ownBlock=some k→B≤k:=fun k hk=>(World.ownsRow.lt hown k hk).1
  obtain ⟨v',w',hr,h2,h3,_⟩:=Lib.run_append_own_string (P:=P) w B t u o.type e i under hu hi hz hsz hby (.slice a1 n c) n cs hown st (by unfold maxLen;omega) hbytes hbase
  obtain ⟨a',c',rfl,h5⟩:=Hy h2
  unfold Oper.wp
  simp [execOp,ho,resolve,invoke,builtin,hs,hx,hr,Result.andThen]
  exact h a' c' w' h5 h3 ((Below.refl B w).grown h3 hbase (fun k hk=>hlt k hk))
theorem MQ {w:World} {g B:Nat} {m:WM} (h:CoP w g B m) (hBw:B≤w.heap.size) (k most:Nat) (hk:k≤8) (hm9:most≤1000) (f o:Nat) (s:List UInt8) (hs:s.length≤1100000) (hl:m.b.length≤900000) (hf:f≠g) (hc:w.cell? ⟨f,o,none⟩=some (AS s)) (hfB:f<B) :
    Calls Tryz.prog 108 #[π g,ν k,ν most,.pointer (some ⟨f,o,none⟩)] w fun e w'=>e=.returned (.tuple #[])∧CoP w' g B (Cu k most m s)∧Turns (fun x=>x=g∨B≤x) w w':=by
  have hsz:=Kh s
  unfold AS at hc
  have hgl:g<w.heap.size:=by obtain ⟨_,_,hb,_⟩:=h;exact hb.lt
  obtain ⟨st,hst⟩:∃ st:ByteArray,st=⟨s.toArray⟩:=⟨_,rfl⟩
  have hsl:st.data.toList=s:=by rw [hst]
  rw [← hst] at hsz hc
  have hs1:st.size≤1100000:=ω
  have H:=hid h;have HSZ:=hid hsz;have HSL:=hid hsl
  clear h hst hsz hsl
  obtain ⟨w1,hw1⟩:∃ w1,w1=(w.alloc (Obj.cells #[Value.int IntKind.i64 (st.size:Int)] 3)).alloc (Obj.cells #[Value.pointer (some { block:=w.heap.size,off:=0 })] 120):=⟨_,rfl⟩
  have b1:Below w.heap.size w w1:=by rw [hw1];exact AT (CQ w _) _
  have s1:w1.heap.size=w.heap.size+2:=by rw [hw1];simp
  have kn:Blk w1 w.heap.size 3 [ν (st.size:Int)]:=by
    rw [hw1];exact (AP rfl _ _:Blk (w.alloc (Obj.cells #[Value.int IntKind.i64 (st.size:Int)] 3)) w.heap.size 3 [ν (st.size:Int)]).mono (CQ _ _)
  have ka:Blk w1 (w.heap.size+1) 120 [π w.heap.size]:=by
    rw [hw1]
    have:Blk ((w.alloc (Obj.cells #[Value.int IntKind.i64 (st.size:Int)] 3)).alloc (Obj.cells #[Value.pointer (some { block:=w.heap.size,off:=0 })] 120)) (w.alloc (Obj.cells #[Value.int IntKind.i64 (st.size:Int)] 3)).heap.size 120 [π w.heap.size]:=AP rfl _ _
    simpa using this
  have c1:w1.cell? ⟨f,o,none⟩=some (.string st):=(World.cell?_of_block (b1.block f ω)).trans hc
  have h1:CoP w1 g B m:=by
    obtain ⟨a,c,hb,ho⟩:=H.out
    exact ⟨a,c,hb.mono b1,ho.mono b1⟩
  have HN:=hid (ES h1 ω k hk (some ⟨w.heap.size+1,0,none⟩) 1 w.heap.size [0] [(st.size:Int)] rfl (by decide) ω (Ec ka 1 1 rfl ω)
    (fun _ b hb=>by obtain ⟨off,e⟩:=hb;cases e;omega) ω ω (fun i hi=>by
      obtain rfl:i=0:=by simp at hi;omega
      exact ⟨kn.cell (i:=0) (by simp),by show (st.size:Int)≤_;omega⟩))
  have hm1l:=CH k [(st.size:Int)] m
  have hfold:[(st.size:Int)].foldl (AD k) m=AD k m st.size:=rfl
  have hE:Cu k most m s=if (AD k m st.size).no=true∨most<s.length then ⟨(AD k m st.size).b,true⟩ else ⟨(AD k m st.size).b++s,false⟩:=by unfold Cu;rw [← HSZ.out]
  rw [hE]
  rw [hfold] at HN hm1l
  generalize AD k m st.size=m1 at *
  have hm1:m1.b.length≤1000000:=by simp at hm1l;omega
  have HW1:=hid hw1;have B1:=hid b1;have KN:=hid kn;have C1:=hid c1
  have hBw1:B≤w1.heap.size:=ω
  clear hm1l hfold hE hw1 b1 kn ka h1 c1
  by_cases hbad:m1.no=true∨most<s.length
  · rw [if_pos hbad]
    obtain ⟨okb,hok⟩:∃ okb,decide (st.size≤most)=okb:=⟨_,rfl⟩
    have hor:(m1.no||!okb)=true:=by
      rcases hbad with h | h
      · rw [h];rfl
      · rw [← hok,decide_eq_false (by have:=HSZ.out;omega)];simp
    have HOR:=hid hor
    clear hbad hor
    go_enter Tryz.func108,Tryz.ntmps108
    go_wp2_with fail
    rw [← HW1.out]
    refine HN.out.mono ?_
    rintro e w2 ⟨rfl,⟨a2,c2,hb2,ho2⟩,t2⟩
    have n2:w2.cell? ⟨w.heap.size,0,none⟩=some (ν (st.size:Int)):=(t2.blk KN.out ω).cell (i:=0) (by simp)
    have HB2:=hid hb2;have HO2:=hid ho2;have T2:=hid t2
    clear hb2 ho2 t2
    go_wp2_with fail
    refine (Cq HB2.out okb).mono ?_
    rintro e w3 ⟨rfl,hw3⟩
    rw [HOR.out] at hw3
    have hb3:Blk w3 g 107 [.bool true,.slice a2 m1.b.length c2,ν 0,.bool true]:=by rw [hw3];exact Blk.set HB2.out 3 _
    have t3:Turns (fun x=>x=g) w2 w3:=by rw [hw3];exact AG g 3 _
    have o3:Ek w3 B a2 c2 m1.b:=by rw [hw3];exact Di HO2.out HB2.out (by decide) 3 _
    have x3:=hb3.cell (i:=3) (by simp)
    simp only [List.getElem_cons_zero,List.getElem_cons_succ] at x3
    have T3:=hid (T2.out.trans t3);have HB3:=hid hb3;have O3:=hid o3
    clear hb3 t3 o3 hw3 n2
    go_wp2_with fail
    go_end0
    exact ⟨rfl,⟨a2,c2,HB3.out,O3.out⟩,(Turns.of_below B1.out).trans (T3.out.mono (fun _ q=>.inl q))⟩
  · rw [if_neg hbad]
    have hno:m1.no=false:=by
      cases h:m1.no
      · rfl
      · exact absurd (Or.inl h) hbad
    have hle:decide (st.size≤most)=true:=decide_eq_true (by have:=HSZ.out;omega)
    clear hbad
    go_enter Tryz.func108,Tryz.ntmps108
    go_wp2_with fail
    rw [← HW1.out]
    refine HN.out.mono ?_
    rintro e w2 ⟨rfl,⟨a2,c2,hb2,ho2⟩,t2⟩
    rw [hno] at hb2
    have n2:w2.cell? ⟨w.heap.size,0,none⟩=some (ν (st.size:Int)):=(t2.blk KN.out ω).cell (i:=0) (by simp)
    have f2:w2.cell? ⟨f,o,none⟩=some (.string st):=(World.cell?_of_block (t2.block f (by have:=B1.out.size;omega) hf)).trans C1.out
    have HB2:=hid hb2;have HO2:=hid ho2;have T2:=hid t2
    have hs2:=t2.size
    clear hb2 ho2 t2
    go_wp2_with fail
    refine (Cq HB2.out true).mono ?_
    rintro e w3 ⟨rfl,hw3⟩
    have hb3:Blk w3 g 107 [.bool true,.slice a2 m1.b.length c2,ν 0,.bool false]:=by rw [hw3];exact Blk.set HB2.out 3 _
    have t3:Turns (fun x=>x=g) w2 w3:=by rw [hw3];exact AG g 3 _
    have o3:Ek w3 B a2 c2 m1.b:=by rw [hw3];exact Di HO2.out HB2.out (by decide) 3 _
    have x0:=hb3.cell (i:=0) (by simp)
    have x1:=hb3.cell (i:=1) (by simp)
    have x3:=hb3.cell (i:=3) (by simp)
    simp only [List.getElem_cons_zero,List.getElem_cons_succ] at x0 x1 x3
    have f3:w3.cell? ⟨f,o,none⟩=some (.string st):=(World.cell?_of_block (t3.block f ω hf)).trans f2
    have T3:=hid (T2.out.trans t3);have HB3:=hid hb3
    have o3':=Own.mono o3 (Av (Below.refl w3.heap.size w3) 1)
    have O3:=hid o3'
    have hB3:B≤(w3.drewN 1).heap.size:=by have:=t3.size;show B≤w3.heap.size;omega
    clear hb3 t3 o3 o3' hw3 n2 f2
    have tt:True:=trivial
    go_wp2_with fail
    go_region_law (refine KC (st:=st) rfl (.tmp 62) (.tmp 65) rfl υ60 υ9 Re B (by simp [Act.eval,Act.put]) (by simp [Act.eval,Act.put]) O3.out ω hB3 ?_;intro a4 c4 w4 o4 g4 b4;have hb4:=KX O3.out (HB3.out.mono (Av (Below.refl w3.heap.size w3) 1)) g4 (by decide);have z1:=hb4.cell (i:=1) (by simp);have z2:=hb4.frozen 1;simp only [List.getElem_cons_zero,List.getElem_cons_succ] at z1;have HB4:=hid hb4;have O4:=hid o4;have B4:=hid b4;clear o4 g4 b4 hb4)
    all_goals
      go_wp2_with fail
      go_end0
      have hn:m1.b.length+st.size=(m1.b++s).length:=by rw [HSZ.out];simp
      have o5:=O4.out
      rw [HSL.out,← List.map_append] at o5
      have o6:Ek w4 B a4 c4 (m1.b++s):=by rw [hn] at o5;exact o5
      refine ⟨rfl,⟨a4,c4,?_,Di o6 HB4.out (by decide) 1 _⟩,?_⟩
      · show Blk _ g _ [.bool true,.slice a4 (m1.b++s).length c4,ν 0,.bool false]
        rw [← hn]
        exact Blk.set HB4.out 1 (.slice a4 (m1.b.length+st.size) c4)
      · exact ((((Turns.of_below B1.out).trans (T3.out.mono (fun _ q=>.inl q))).trans (Turns.of_below (Av (Below.refl _ _) 1))).trans ((Turns.of_belowW B4.out).mono (fun _ q=>.inr q))).trans ((AG g 1 _).mono (fun _ q=>.inl q))
end
section
def BM (xs:List UInt8) (k most at_:Nat) (no:Bool) (s0:List UInt8):Nat×Bool×List UInt8:=
  if no=true then (at_,true,s0) else match Bp xs at_ k with
    | none=>(at_+k,true,s0)
    | some v=>if v≤most then (if xs.length<at_+k+v then (at_+k,true,s0) else (at_+k+v,false,(xs.drop (at_+k)).take v)) else (at_+k,true,s0)
theorem MN {W0 w:World} {g:Nat} {a:Option Addr} {c:Nat} {xs:List UInt8} {at_:Nat} {no:Bool} (h:CoG w g a c xs at_ no) (r0:BB W0 a c xs) (b0:Below W0.heap.size W0 w) (hg:W0.heap.size≤g) (hat:MW xs at_ no) (hl:xs.length≤1000000) (k most:Nat) (hk:k≤8) (hm9:most≤1000)
    (f o:Nat) (Tf:TypeId) (L:List Value) (hfg:f≠g) (hf0:W0.heap.size≤f) (hf:Blk w f Tf L) (s0:List UInt8) (hs0:s0.length≤10000) (hL:L[o]? = some (AS s0)) :
    Calls Tryz.prog 108 #[π g,ν k,ν most,.pointer (some ⟨f,o,none⟩)] w fun e w'=>e=.returned (.tuple #[])∧CoG w' g a c xs (BM xs k most at_ no s0).1 (BM xs k most at_ no s0).2.1∧MW xs (BM xs k most at_ no s0).1 (BM xs k most at_ no s0).2.1∧Blk w' f Tf (L.set o (AS (BM xs k most at_ no s0).2.2))∧Turns (fun x=>x=g∨x=f) w w':=by
  have hol:o<L.length:=(List.getElem?_eq_some_iff.1 hL).1
  have hLs:L.set o (AS s0)=L:=by
    obtain ⟨h1,h2⟩:=List.getElem?_eq_some_iff.1 hL
    rw [← h2];exact List.set_getElem_self h1
  have hcell:w.cell? ⟨f,o,none⟩=some (AS s0):=by
    have:=hf.cell (i:=o) hol
    rw [this,← hL,List.getElem?_eq_getElem hol]
  have hsz:=Kh s0
  unfold AS at hcell
  have hgl:g<w.heap.size:=h.lt
  have hfl:f<w.heap.size:=hf.lt
  obtain ⟨st,hst⟩:∃ st:ByteArray,st=⟨s0.toArray⟩:=⟨_,rfl⟩
  rw [← hst] at hsz hcell
  have hs1:st.size≤10000:=ω
  have H:=hid h;have HF:=hid hf;have R0:=hid r0;have B0:=hid b0;have HLS:=hid hLs
  clear h hst hsz hf r0 b0 hLs hL
  obtain ⟨w1,hw1⟩:∃ w1,w1=(w.alloc (Obj.cells #[Value.int IntKind.i64 (st.size:Int)] 3)).alloc (Obj.cells #[Value.pointer (some { block:=w.heap.size,off:=0 })] 120):=⟨_,rfl⟩
  have b1:Below w.heap.size w w1:=by rw [hw1];exact AT (CQ w _) _
  have s1:w1.heap.size=w.heap.size+2:=by rw [hw1];simp
  have kn:Blk w1 w.heap.size 3 [ν (st.size:Int)]:=by
    rw [hw1];exact (AP rfl _ _:Blk (w.alloc (Obj.cells #[Value.int IntKind.i64 (st.size:Int)] 3)) w.heap.size 3 [ν (st.size:Int)]).mono (CQ _ _)
  have ka:Blk w1 (w.heap.size+1) 120 [π w.heap.size]:=by
    rw [hw1]
    have:Blk ((w.alloc (Obj.cells #[Value.int IntKind.i64 (st.size:Int)] 3)).alloc (Obj.cells #[Value.pointer (some { block:=w.heap.size,off:=0 })] 120)) (w.alloc (Obj.cells #[Value.int IntKind.i64 (st.size:Int)] 3)).heap.size 120 [π w.heap.size]:=AP rfl _ _
    simpa using this
  have hW0:W0.heap.size≤w.heap.size:=B0.out.size
  have b01:Below W0.heap.size W0 w1:=B0.out.trans (b1.mono hW0)
  have hN:=ER (w:=w1) (g:=g) (a:=a) (c:=c) (xs:=xs) (s:=⟨at_,no,[ν (st.size:Int)]⟩) (show CoG w1 g a c xs at_ no from Blk.mono H.out b1) R0.out b01 hg hat hl k hk (some ⟨w.heap.size+1,0,none⟩) 1 w.heap.size 3 [0] (by decide) (Ec ka 1 1 rfl ω)
    (fun _ b hb=>by obtain ⟨off,e⟩:=hb;cases e;omega) ω hW0 kn (fun i hi=>by
      obtain rfl:i=0:=by simp at hi;omega
      exact Nat.one_pos)
  obtain ⟨S,hS⟩:∃ S,S=BH xs k ⟨at_,no,[ν (st.size:Int)]⟩ 0:=⟨_,rfl⟩
  rw [show [0].foldl (BH xs k) ⟨at_,no,[ν (st.size:Int)]⟩=S from hS.symm] at hN
  have hSL:∃ nv:Int,S.L=[ν nv]∧0≤nv∧nv≤9223372036854775807∧(S.no=false→Bp xs at_ k=some nv.toNat∧S.at_=at_+k∧no=false)∧(S.no=true→BM xs k most at_ no s0=(S.at_,true,s0))∧(S.no=false→¬ nv≤most→BM xs k most at_ no s0=(S.at_,true,s0)):=by
    unfold BH at hS
    cases no with
    | true=>
      rw [if_pos rfl] at hS
      subst hS
      exact ⟨st.size,rfl,ω,ω,fun q=>(by cases q),fun _=>(by unfold BM;rw [if_pos rfl]),fun q=>(by cases q)⟩
    | false=>
      rw [if_neg (by simp)] at hS
      have hb:=Ov (xs:=xs) (at_:=at_) (k:=k)
      cases hv:Bp xs at_ k with
      | none=>
        rw [hv] at hS
        subst hS
        exact ⟨0,rfl,ω,ω,fun q=>(by simp at q),fun _=>(by unfold BM;rw [if_neg (by simp),hv]),fun q=>(by simp at q)⟩
      | some v=>
        rw [hv] at hS hb
        subst hS
        exact ⟨v,rfl,ω,by simpa using hb,fun _=>⟨by simp,rfl,rfl⟩,fun q=>(by simp at q),fun _ hnm=>(by unfold BM;rw [if_neg (by simp),hv];simp only;rw [if_neg ω])⟩
  obtain ⟨nv,hnv,hnv0,hnv9,hgood,hbad1,hbad2⟩:=hSL
  rw [hnv] at hN
  have HN:=hid hN;have HW1:=hid hw1;have B1:=hid b1;have HG:=hid hgood;have HB1:=hid hbad1;have HB2:=hid hbad2
  clear hN hw1 b1 kn ka hnv hS hgood hbad1 hbad2 b01
  obtain ⟨okb,hok⟩:∃ okb,decide (nv≤(most:Int))=okb:=⟨_,rfl⟩
  by_cases hor:(S.no||!okb)=true
  · have hE:BM xs k most at_ no s0=(S.at_,true,s0):=by
      cases hSn:S.no with
      | true=>exact HB1.out hSn
      | false=>
        rw [hSn,Bool.false_or] at hor
        refine HB2.out hSn (fun q=>?_)
        rw [decide_eq_true q] at hok
        rw [← hok] at hor;cases hor
    rw [hE]
    have HOR:=hid hor
    clear hor hE
    go_enter Tryz.func108,Tryz.ntmps108
    go_wp2_with fail
    rw [← HW1.out]
    refine HN.out.mono ?_
    rintro e w2 ⟨rfl,hb2,hat2,hn2,_,t2⟩
    have n2:=hn2.cell (i:=0) (by simp)
    simp only [List.getElem_cons_zero] at n2
    have CB2:=hid hb2;have T2:=hid t2;have HAT2:=hid hat2
    clear hb2 t2 hn2 hat2
    go_wp2_with fail
    refine (Cq CB2.out okb).mono ?_
    rintro e w3 ⟨rfl,hw3⟩
    rw [HOR.out] at hw3
    have hb3:Blk w3 g 107 [.bool false,.slice a xs.length c,ν (S.at_:Int),.bool true]:=by rw [hw3];exact Blk.set CB2.out 3 _
    have t3:Turns (fun x=>x=g) w2 w3:=by rw [hw3];exact AG g 3 _
    have x3:=hb3.cell (i:=3) (by simp)
    simp only [List.getElem_cons_zero,List.getElem_cons_succ] at x3
    have T3:=hid t3;have CB3:=hid hb3
    clear hb3 t3 hw3 n2
    go_wp2_with fail
    go_end0
    have ht:Turns (fun x=>x=g∨x=f) w w3:=((Turns.of_below B1.out).trans' (T2.out.trans (T3.out.mono (fun _ q=>.inl q))) (fun x hx q=>q.elim .inl (fun e=>ω)))
    refine ⟨rfl,CB3.out,⟨HAT2.out.1,fun q=>(by cases q)⟩,?_,ht⟩
    rw [HLS.out]
    have h1:=(Blk.mono HF.out B1.out)
    have hfs:f≠w.heap.size:=ω
    exact T3.out.blk (T2.out.blk h1 (fun q=>q.elim hfg hfs)) hfg
  · obtain ⟨hSn,rfl⟩:S.no=false∧okb=true:=by
      cases h1:S.no<;>cases okb<;>rw [h1] at hor<;>simp at hor ⊢
    obtain ⟨hgf,hSa,rfl⟩:=HG.out hSn
    obtain ⟨v,rfl⟩:∃ v:Nat,nv=(v:Int):=⟨nv.toNat,ω⟩
    rw [Int.toNat_natCast] at hgf
    have hvm:v≤most:=by have:=of_decide_eq_true hok;omega
    rw [hSn] at HN
    have hE:BM xs k most at_ false s0=if xs.length<S.at_+v then (S.at_,true,s0) else (S.at_+v,false,(xs.drop S.at_).take v):=by
      unfold BM
      rw [if_neg (by simp),hgf]
      simp only
      rw [if_pos hvm,hSa]
    have hpos:0<xs.length:=by
      unfold Bp at hgf
      split at hgf
      · next h1=>have:=Ir h1.1;omega
      · cases hgf
    rw [hE]
    generalize S.at_=at1 at *
    have hok2:decide (v≤most)=true:=decide_eq_true hvm
    have hat1:at1≤xs.length:=by
      unfold Bp at hgf
      split at hgf
      · next h1=>omega
      · cases hgf
    clear hE hgf hSa hSn hor HB1 HB2 HG hnv0
    have d1:IntKind.i64.wrap ((xs.length:Int)-(at1:Int))=(xs.length:Int)-(at1:Int):=IntWalk.i64_in _ ω
    by_cases hlt:xs.length<at1+v
    · rw [if_pos hlt]
      have d2:decide ((xs.length:Int)-(at1:Int)<(v:Int))=true:=decide_eq_true ω
      go_enter Tryz.func108,Tryz.ntmps108
      go_wp2_with fail
      rw [← HW1.out]
      refine HN.out.mono ?_
      rintro e w2 ⟨rfl,hb2,hat2,hn2,_,t2⟩
      have n2:=hn2.cell (i:=0) (by simp)
      simp only [List.getElem_cons_zero] at n2
      have CB2:=hid hb2;have T2:=hid t2;have HN2:=hid hn2
      clear hb2 t2 hn2 hat2
      go_wp2_with fail
      refine (Cq CB2.out true).mono ?_
      rintro e w3 ⟨rfl,hw3⟩
      have hb3:Blk w3 g 107 [.bool false,.slice a xs.length c,ν (at1:Int),.bool false]:=by rw [hw3];exact Blk.set CB2.out 3 _
      have t3:Turns (fun x=>x=g) w2 w3:=by rw [hw3];exact AG g 3 _
      have x0:=hb3.cell (i:=0) (by simp)
      have x1:=hb3.cell (i:=1) (by simp)
      have x2:=hb3.cell (i:=2) (by simp)
      have x3:=hb3.cell (i:=3) (by simp)
      have z2:=hb3.frozen 2
      have z3:=hb3.frozen 3
      simp only [List.getElem_cons_zero,List.getElem_cons_succ] at x0 x1 x2 x3
      have kn3:=t3.blk HN2.out ω
      have n3:=kn3.cell (i:=0) (by simp)
      simp only [List.getElem_cons_zero] at n3
      have hfs:f≠w.heap.size:=ω
      have hf3:=t3.blk (T2.out.blk (Blk.mono HF.out B1.out) (fun q=>q.elim hfg hfs)) hfg
      have ht:Turns (fun x=>x=g∨x=f) w w3:=((Turns.of_below B1.out).trans' (T2.out.trans (t3.mono (fun _ q=>.inl q))) (fun x hx q=>q.elim .inl (fun e=>ω)))
      have CB3:=hid hb3;have HF3:=hid hf3;have HT:=hid ht;have KN3:=hid kn3
      clear hb3 t3 hw3 n2 hf3 ht kn3
      go_wp2_with fail
      go_region
      all_goals
        go_wp2_with fail
        go_end0
        have hwd:Below w3.heap.size w3 (w3.drewN 1):=Av (Below.refl _ _) 1
        refine ⟨rfl,Blk.set (CB3.out.mono hwd) 3 (.bool true),⟨ω,fun q=>(by cases q)⟩,?_,(HT.out.trans (Turns.of_below hwd)).trans ((AG g 3 _).mono (fun _ q=>.inl q))⟩
        have tq:Turns (fun x=>x=g) w3 ((w3.drewN 1).setCell ⟨g,3,none⟩ (.bool true)):=(Turns.of_below hwd).trans (AG g 3 _)
        rw [HLS.out]
        exact tq.blk HF3.out hfg
    · rw [if_neg hlt]
      obtain ⟨ys,hys⟩:∃ ys,ys=(xs.drop at1).take v:=⟨_,rfl⟩
      rw [← hys]
      have HYS:=hid hys
      clear hys
      have d2:decide ((xs.length:Int)-(at1:Int)<(v:Int))=false:=decide_eq_false ω
      go_enter Tryz.func108,Tryz.ntmps108
      go_wp2_with fail
      rw [← HW1.out]
      refine HN.out.mono ?_
      rintro e w2 ⟨rfl,hb2,hat2,hn2,_,t2⟩
      have n2:=hn2.cell (i:=0) (by simp)
      simp only [List.getElem_cons_zero] at n2
      have CB2:=hid hb2;have T2:=hid t2;have HN2:=hid hn2
      clear hb2 t2 hn2 hat2
      go_wp2_with fail
      refine (Cq CB2.out true).mono ?_
      rintro e w3 ⟨rfl,hw3⟩
      have hb3:Blk w3 g 107 [.bool false,.slice a xs.length c,ν (at1:Int),.bool false]:=by rw [hw3];exact Blk.set CB2.out 3 _
      have t3:Turns (fun x=>x=g) w2 w3:=by rw [hw3];exact AG g 3 _
      have x0:=hb3.cell (i:=0) (by simp)
      have x1:=hb3.cell (i:=1) (by simp)
      have x2:=hb3.cell (i:=2) (by simp)
      have x3:=hb3.cell (i:=3) (by simp)
      have z2:=hb3.frozen 2
      have z3:=hb3.frozen 3
      simp only [List.getElem_cons_zero,List.getElem_cons_succ] at x0 x1 x2 x3
      have kn3:=t3.blk HN2.out ω
      have n3:=kn3.cell (i:=0) (by simp)
      simp only [List.getElem_cons_zero] at n3
      have hfs:f≠w.heap.size:=ω
      have hf3:=t3.blk (T2.out.blk (Blk.mono HF.out B1.out) (fun q=>q.elim hfg hfs)) hfg
      have ht:Turns (fun x=>x=g∨x=f) w w3:=((Turns.of_below B1.out).trans' (T2.out.trans (t3.mono (fun _ q=>.inl q))) (fun x hx q=>q.elim .inl (fun e=>ω)))
      have CB3:=hid hb3;have HF3:=hid hf3;have HT:=hid ht;have KN3:=hid kn3
      clear hb3 t3 hw3 n2 hf3 ht kn3
      have q0:w3.cell? ⟨f,o,none⟩=some (L[o]'hol):=HF3.out.cell hol
      have qf:=HF3.out.frozen o
      obtain ⟨b,off,rfl,hbw,_⟩:=R0.out.bytes hpos
      have hc1:=R0.out.2.1
      have hc2:=R0.out.2.2.1
      unfold maxLen at hc2
      obtain ⟨dp,hdp⟩:∃ dp,(if c=at1 then (some ⟨b,off,none⟩:Option Addr) else some ⟨b,off+at1,none⟩)=dp:=⟨_,rfl⟩
      have hr3:Below W0.heap.size W0 w3:=B0.out.trans (HT.out.below hW0 (fun x hx=>by rcases hx with e | e<;>rw [e]<;>assumption))
      have R6:=Un (R0.out.mono hr3) at1 v ω hdp
      have hcv:=NF (R6.1.mono ((Below.refl _ _).drew).drew)
      rw [R6.2,← HYS.out] at hcv
      have i0:0≤(at1:Int)+(v:Int):=ω
      have i1:(at1:Int)≤(at1:Int)+(v:Int):=ω
      have i2:((at1:Int)+(v:Int)).toNat=at1+v:=ω
      have i3:(at1:Int)+(v:Int)≤(c:Int):=ω
      have i4:at1+v-at1=v:=ω
      have e1:IntKind.i64.wrap ((at1:Int)+(v:Int))=(at1:Int)+(v:Int):=IntWalk.i64_in _ ω
      clear R6 hr3
      go_wp2_with fail
      go_region
      all_goals
        go_wp2_with fail
      go_region
      all_goals
        go_wp2_with fail
      have t4:Turns (fun x=>x=f) w3 (w3.setCell ⟨f,o,none⟩ (.string ⟨ys.toArray⟩)):=AG f o _
      have hb4:=t4.blk CB3.out (fun q=>hfg q.symm)
      have kn4:=t4.blk KN3.out (fun q=>hfs q.symm)
      have hf4:Blk (w3.setCell ⟨f,o,none⟩ (.string ⟨ys.toArray⟩)) f Tf (L.set o (.string ⟨ys.toArray⟩)):=Blk.set HF3.out o _
      have y2:=hb4.cell (i:=2) (by simp)
      have yf:=hb4.frozen 2
      have n4:=kn4.cell (i:=0) (by simp)
      simp only [List.getElem_cons_zero,List.getElem_cons_succ] at y2 n4
      have T4:=hid t4;have CB4:=hid hb4;have HF4:=hid hf4
      clear t4 hb4 kn4 hf4 hcv
      generalize w3.setCell ⟨f,o,none⟩ (.string ⟨ys.toArray⟩)=w4 at *
      go_region
      all_goals
        go_wp2_with fail
        go_end0
        have hwd:Below w4.heap.size w4 w4.drew.drew.drew:=(((Below.refl _ _).drew).drew).drew
        have tq:Turns (fun x=>x=g) w4 (w4.drew.drew.drew.setCell ⟨g,2,none⟩ (ν ((at1:Int)+(v:Int)))):=(Turns.of_below hwd).trans (AG g 2 _)
        refine ⟨rfl,?_,⟨ω,fun _=>ω⟩,tq.blk HF4.out hfg,(HT.out.trans (T4.out.mono (fun _ q=>.inr q))).trans (tq.mono (fun _ q=>.inl q))⟩
        show Blk _ g _ [.bool false,.slice (some ⟨b,off,none⟩) xs.length c,ν ((at1+v:Nat):Int),.bool false]
        rw [Int.natCast_add]
        exact Blk.set (CB4.out.mono hwd) 2 (ν ((at1:Int)+(v:Int)))
end
section
theorem Bw {w:World} {pk:Nat} {P:PkM} {na:Option Addr} {nn nc o:Nat} (h:Blk w pk 39 (pkC P na nn nc)) (ho:DT o=true):w.cell? ⟨pk,o,none⟩=some (ν (P.I o)):=by
  have h1:=Vu P na nn nc ho
  obtain ⟨h2,h3⟩:=List.getElem?_eq_some_iff.1 h1
  rw [← h3];exact h.cell h2
theorem VU {o:Nat} (h:DT o=true):o<43:=by simp [DT] at h;omega
theorem OQ {w:World} {pk:Nat} (os:List Nat) (hos:os.length≤10) :
    Row (w.alloc (.cells ((os.map fun o=>(.pointer (some ⟨pk,o,none⟩):Value))).toArray 120)) 1 (some ⟨w.heap.size,0,none⟩) os.length os.length (os.map fun o=>.pointer (some ⟨pk,o,none⟩)):=
  Ec (AP rfl _ _) 1 os.length (by simp) ω
theorem Db {w:World} {g B pk:Nat} {m:WM} {P:PkM} {na:Option Addr} {nn nc:Nat} (h:CoP w g B m) (hBw:B≤w.heap.size) (hp:Blk w pk 39 (pkC P na nn nc)) (hP:Be P) (k:Nat) (hk:k≤8) (os:List Nat) (ho:∀ o∈os,DT o=true) (hfew:os.length≤10) (hl:m.b.length≤1000000) :
    Calls Tryz.prog 67 #[π g,ν k,.slice (some ⟨w.heap.size,0,none⟩) os.length os.length] (w.alloc (.cells ((os.map fun o=>(.pointer (some ⟨pk,o,none⟩):Value))).toArray 120))
      fun e w'=>e=.returned (.tuple #[])∧CoP w' g B ((os.map P.I).foldl (AD k) m)∧Turns (fun x=>x=g) w w':=by
  have hgl:g<w.heap.size:=by obtain ⟨_,_,hb,_⟩:=h;exact hb.lt
  have hne:pk≠g:=by obtain ⟨_,_,hb,_⟩:=h;exact CR hp hb (by decide)
  have b1:Below w.heap.size w (w.alloc (.cells ((os.map fun o=>(.pointer (some ⟨pk,o,none⟩):Value))).toArray 120)):=CQ w _
  have hs:w.heap.size≤(w.alloc (.cells ((os.map fun o=>(.pointer (some ⟨pk,o,none⟩):Value))).toArray 120)).heap.size:=b1.size
  have h1:CoP (w.alloc (.cells ((os.map fun o=>(.pointer (some ⟨pk,o,none⟩):Value))).toArray 120)) g B m:=by
    obtain ⟨a,c,hb,hw⟩:=h
    exact ⟨a,c,hb.mono b1,hw.mono b1⟩
  refine (ES h1 (Nat.le_trans hBw hs) k hk (some ⟨w.heap.size,0,none⟩) os.length pk os (os.map P.I) (by simp) hfew hl (OQ os hfew) (fun _ b hb=>by obtain ⟨off,e⟩:=hb;cases e;omega) hne (Nat.lt_of_lt_of_le hp.lt hs) (fun i hi=>?_)).mono ?_
  · have e1:os.getD i 0=os[i]:=by simp [hi]
    have e2:(os.map P.I).getD i 0=P.I os[i]:=by simp [hi]
    rw [e1,e2]
    exact ⟨Bw (hp.mono b1) (ho _ (List.getElem_mem hi)),hP _⟩
  · rintro e w' ⟨rfl,h2,h3⟩
    exact ⟨rfl,h2,(Turns.of_below b1).trans h3⟩
structure RM where
  at_:Nat
  no:Bool
  P:PkM
def AF (xs:List UInt8) (k:Nat) (s:RM) (o:Nat):RM:=if s.no=true then s else ⟨s.at_+k,!(Bp xs s.at_ k).isSome,Ck s.P o (((Bp xs s.at_ k).getD 0:Nat):Int)⟩
def Ne (s:RM) (na:Option Addr) (nn nc:Nat):GM:=⟨s.at_,s.no,pkC s.P na nn nc⟩
theorem TE (xs:List UInt8) (k:Nat) (s:RM) (na:Option Addr) (nn nc o:Nat) (ho:DT o=true):BH xs k (Ne s na nn nc) o=Ne (AF xs k s o) na nn nc:=by
  by_cases h:s.no=true
  · have e1:BH xs k (Ne s na nn nc) o=Ne s na nn nc:=if_pos h
    have e2:AF xs k s o=s:=if_pos h
    rw [e1,e2]
  · have e1:BH xs k (Ne s na nn nc) o=⟨s.at_+k,!(Bp xs s.at_ k).isSome,(pkC s.P na nn nc).set o (ν (((Bp xs s.at_ k).getD 0:Nat):Int))⟩:=if_neg h
    have e2:AF xs k s o=⟨s.at_+k,!(Bp xs s.at_ k).isSome,Ck s.P o (((Bp xs s.at_ k).getD 0:Nat):Int)⟩:=if_neg h
    rw [e1,e2,Bz _ _ _ _ ho]
    rfl
theorem TC (xs:List UInt8) (k:Nat) (os:List Nat) (s:RM) (na:Option Addr) (nn nc:Nat) (ho:∀ o∈os,DT o=true):os.foldl (BH xs k) (Ne s na nn nc)=Ne (os.foldl (AF xs k) s) na nn nc:=by
  induction os generalizing s with
  | nil=>rfl
  | cons o os ih=>
    show os.foldl (BH xs k) (BH xs k (Ne s na nn nc) o)=_
    rw [TE xs k s na nn nc o (ho o (List.mem_cons_self ..)),ih _ (fun q hq=>ho q (List.mem_cons_of_mem _ hq))]
    rfl
def RdP (W0 w:World) (g pk:Nat) (a:Option Addr) (c:Nat) (xs:List UInt8) (na:Option Addr) (nn nc:Nat) (s:RM):Prop:=
  CoG w g a c xs s.at_ s.no∧MW xs s.at_ s.no∧Blk w pk 39 (pkC s.P na nn nc)∧Below W0.heap.size W0 w
theorem Da {W0 w:World} {g pk:Nat} {a:Option Addr} {c:Nat} {xs:List UInt8} {na:Option Addr} {nn nc:Nat} {s:RM} (h:RdP W0 w g pk a c xs na nn nc s) (r0:BB W0 a c xs) (hg:W0.heap.size≤g) (hpk:W0.heap.size≤pk) (hl:xs.length≤1000000) (k:Nat) (hk:k≤8) (os:List Nat) (ho:∀ o∈os,DT o=true) (hfew:os.length≤10) :
    Calls Tryz.prog 67 #[π g,ν k,.slice (some ⟨w.heap.size,0,none⟩) os.length os.length] (w.alloc (.cells ((os.map fun o=>(.pointer (some ⟨pk,o,none⟩):Value))).toArray 120))
      fun e w'=>e=.returned (.tuple #[])∧RdP W0 w' g pk a c xs na nn nc (os.foldl (AF xs k) s)∧Turns (fun x=>x=g∨x=pk) w w':=by
  obtain ⟨h1,h2,h3,h4⟩:=h
  have hgl:=h1.lt
  have hne:pk≠g:=CR h3 h1 (by decide)
  have hpl:=h3.lt
  have b1:Below w.heap.size w (w.alloc (.cells ((os.map fun o=>(.pointer (some ⟨pk,o,none⟩):Value))).toArray 120)):=CQ w _
  refine (ER (s:=Ne s na nn nc) (h1.mono b1) r0 (h4.trans (b1.mono h4.size)) hg h2 hl k hk (some ⟨w.heap.size,0,none⟩) os.length pk 39 os hfew (OQ os hfew) (fun _ b hb=>by obtain ⟨off,e⟩:=hb;cases e;omega) hne hpk (h3.mono b1) (fun i hi=>?_)).mono ?_
  · have e1:os.getD i 0=os[i]:=by simp [hi]
    rw [e1]
    exact VU (ho _ (List.getElem_mem hi))
  · rintro e w' ⟨rfl,q1,q2,q3,_,q5⟩
    rw [TC xs k os s na nn nc ho] at q1 q2 q3
    have ht:Turns (fun x=>x=g∨x=pk) w w':=(Turns.of_below b1).trans q5
    exact ⟨rfl,⟨q1,q2,q3,h4.trans (ht.below h4.size (fun x hx=>by rcases hx with e | e<;>rw [e]<;>assumption))⟩,ht⟩
end
section
theorem OY {w:World} {g B pk:Nat} {m:WM} {P:PkM} {na:Option Addr} {nn nc:Nat} (h:CoP w g B m) (hBw:B≤w.heap.size) (hp:Blk w pk 39 (pkC P na nn nc)) (hP:Be P) (hl:m.b.length≤1000000) :
    Calls Tryz.prog 95 #[π g,π pk] w fun e w'=>e=.returned (.tuple #[])∧CoP w' g B (AD 1 m (P.I 18))∧Turns (fun x=>x=g) w w':=by
  have HN:=hid (Db h hBw hp hP 1 (by decide) [18] (by decide) (by decide) hl)
  clear h hp
  go_enter Tryz.func95,Tryz.ntmps95
  go_wp2_with fail
  refine HN.out.mono ?_
  rintro e w1 ⟨rfl,h1,t1⟩
  have H1:=hid h1;have T1:=hid t1
  clear h1 t1
  go_wp2_with fail
  go_end0
  exact ⟨rfl,H1.out,T1.out⟩
theorem OX {W0 w:World} {g pk:Nat} {a:Option Addr} {c:Nat} {xs:List UInt8} {na:Option Addr} {nn nc:Nat} {s:RM} (h:RdP W0 w g pk a c xs na nn nc s) (r0:BB W0 a c xs) (hg:W0.heap.size≤g) (hpk:W0.heap.size≤pk) (hl:xs.length≤1000000) :
    Calls Tryz.prog 95 #[π g,π pk] w fun e w'=>e=.returned (.tuple #[])∧RdP W0 w' g pk a c xs na nn nc (AF xs 1 s 18)∧Turns (fun x=>x=g∨x=pk) w w':=by
  have HN:=hid (Da h r0 hg hpk hl 1 (by decide) [18] (by decide) (by decide))
  clear h r0
  go_enter Tryz.func95,Tryz.ntmps95
  go_wp2_with fail
  refine HN.out.mono ?_
  rintro e w1 ⟨rfl,h1,t1⟩
  have H1:=hid h1;have T1:=hid t1
  clear h1 t1
  go_wp2_with fail
  go_end0
  exact ⟨rfl,H1.out,T1.out⟩
def Ef (m:WM) (ok:Bool):WM:=⟨m.b,m.no||!ok⟩
def FW (s:RM) (ok:Bool):RM:=⟨s.at_,s.no||!ok,s.P⟩
theorem CoP.chk {w:World} {g B:Nat} {m:WM} (h:CoP w g B m) (ok:Bool):Calls Tryz.prog 68 #[π g,.bool ok] w fun e w'=>e=.returned (.tuple #[])∧CoP w' g B (Ef m ok)∧Turns (fun x=>x=g) w w':=by
  obtain ⟨a,c,hb,ho⟩:=h
  refine (Cq hb ok).mono ?_
  rintro e w' ⟨rfl,rfl⟩
  exact ⟨rfl,⟨a,c,Blk.set hb 3 _,Di ho hb (by decide) 3 _⟩,AG g 3 _⟩
theorem RdP.chk {W0 w:World} {g pk:Nat} {a:Option Addr} {c:Nat} {xs:List UInt8} {na:Option Addr} {nn nc:Nat} {s:RM} (h:RdP W0 w g pk a c xs na nn nc s) (hg:W0.heap.size≤g) (ok:Bool):Calls Tryz.prog 68 #[π g,.bool ok] w fun e w'=>e=.returned (.tuple #[])∧RdP W0 w' g pk a c xs na nn nc (FW s ok)∧Turns (fun x=>x=g) w w':=by
  obtain ⟨h1,h2,h3,h4⟩:=h
  refine (Cq h1 ok).mono ?_
  rintro e w' ⟨rfl,rfl⟩
  have t:Turns (fun x=>x=g) w (w.setCell ⟨g,3,none⟩ (.bool (s.no||!ok))):=AG g 3 _
  refine ⟨rfl,⟨Blk.set h1 3 _,⟨h2.1,fun q=>h2.2 (by simp only [FW,Bool.or_eq_false_iff] at q;exact q.1)⟩,t.blk h3 (CR h3 h1 (by decide)),h4.trans (t.below h4.size (fun x hx=>by rw [hx];exact hg))⟩,t⟩
theorem MS {w:World} {g B pk:Nat} {m:WM} {P:PkM} {na:Option Addr} {nn nc:Nat} (h:CoP w g B m) (hBw:B≤w.heap.size) (hp:Blk w pk 39 (pkC P na nn nc)) (hP:Be P) (hl:m.b.length≤1000000) :
    Calls Tryz.prog 107 #[π g,π pk] w fun e w'=>e=.returned (.tuple #[])∧CoP w' g B (Ef (AD 1 m (P.I 4)) (decide (1≤P.I 4)&&decide (P.I 4≤4)))∧Turns (fun x=>x=g) w w':=by
  have HN:=hid (Db h hBw hp hP 1 (by decide) [4] (by decide) (by decide) hl)
  have hne:pk≠g:=by obtain ⟨_,_,hb,_⟩:=h;exact CR hp hb (by decide)
  have HPk:=hid hp
  obtain ⟨v,hv⟩:∃ v,v=P.I 4:=⟨_,rfl⟩
  rw [← hv]
  obtain ⟨b1,hb1⟩:∃ b1,decide (1≤v)=b1:=⟨_,rfl⟩
  obtain ⟨b2,hb2⟩:∃ b2,decide (v≤4)=b2:=⟨_,rfl⟩
  rw [hb1,hb2]
  have HV:=hid hv
  clear h hp hv
  cases b1<;>cases b2
  all_goals
    go_enter Tryz.func107,Tryz.ntmps107
    go_wp2_with fail
    refine HN.out.mono ?_
    rintro e w1 ⟨rfl,h1,t1⟩
    have c4:=Bw (t1.blk HPk.out hne) (o:=4) rfl
    rw [← HV.out] at c4
    have h1':CoP w1 g B (AD 1 m v):=by rw [HV.out];exact h1
    have H1:=hid h1';have T1:=hid t1
    clear h1 t1 h1'
    go_wp2_with fail
    refine (CoP.chk H1.out _).mono ?_
    rintro e w2 ⟨rfl,h2,t2⟩
    have H2:=hid h2;have T2:=hid t2
    clear h2 t2 c4
    go_wp2_with fail
    go_end0
    exact ⟨rfl,H2.out,T1.out.trans T2.out⟩
theorem MR {W0 w:World} {g pk:Nat} {a:Option Addr} {c:Nat} {xs:List UInt8} {na:Option Addr} {nn nc:Nat} {s:RM} (h:RdP W0 w g pk a c xs na nn nc s) (r0:BB W0 a c xs) (hg:W0.heap.size≤g) (hpk:W0.heap.size≤pk) (hl:xs.length≤1000000) :
    Calls Tryz.prog 107 #[π g,π pk] w fun e w'=>e=.returned (.tuple #[])∧RdP W0 w' g pk a c xs na nn nc (FW (AF xs 1 s 4) (decide (1≤(AF xs 1 s 4).P.I 4)&&decide ((AF xs 1 s 4).P.I 4≤4)))∧Turns (fun x=>x=g∨x=pk) w w':=by
  have hN:=Da h r0 hg hpk hl 1 (by decide) [4] (by decide) (by decide)
  rw [show [4].foldl (AF xs 1) s=AF xs 1 s 4 from rfl] at hN
  generalize AF xs 1 s 4=s1 at *
  have HN:=hid hN
  obtain ⟨v,hv⟩:∃ v,v=s1.P.I 4:=⟨_,rfl⟩
  rw [← hv]
  obtain ⟨b1,hb1⟩:∃ b1,decide (1≤v)=b1:=⟨_,rfl⟩
  obtain ⟨b2,hb2⟩:∃ b2,decide (v≤4)=b2:=⟨_,rfl⟩
  rw [hb1,hb2]
  have HV:=hid hv
  clear h r0 hN hv
  cases b1<;>cases b2
  all_goals
    go_enter Tryz.func107,Tryz.ntmps107
    go_wp2_with fail
    refine HN.out.mono ?_
    rintro e w1 ⟨rfl,h1,t1⟩
    have c4:=Bw h1.2.2.1 (o:=4) rfl
    rw [← HV.out] at c4
    have H1:=hid h1;have T1:=hid t1
    clear h1 t1
    go_wp2_with fail
    refine (RdP.chk H1.out hg _).mono ?_
    rintro e w2 ⟨rfl,h2,t2⟩
    have H2:=hid h2;have T2:=hid t2
    clear h2 t2 c4
    go_wp2_with fail
    go_end0
    exact ⟨rfl,H2.out,T1.out.trans (T2.out.mono (fun _ q=>.inl q))⟩
end
section
def WrP (w:World) (g B pk:Nat) (P:PkM) (na:Option Addr) (nn nc:Nat) (m:WM):Prop:=CoP w g B m∧B≤w.heap.size∧Blk w pk 39 (pkC P na nn nc)∧pk<B∧m.b.length≤100000
theorem WrP.ne {w:World} {g B pk:Nat} {P:PkM} {na:Option Addr} {nn nc:Nat} {m:WM} (h:WrP w g B pk P na nn nc m):pk≠g:=by obtain ⟨⟨_,_,hb,_⟩,_,hp,_⟩:=h;exact CR hp hb (by decide)
theorem WrP.of {w w':World} {g B pk:Nat} {P:PkM} {na:Option Addr} {nn nc:Nat} {m m':WM} (h:WrP w g B pk P na nn nc m) (h':CoP w' g B m') (t:Turns (fun x=>x=g∨B≤x) w w') (hl:m'.b.length≤100000):WrP w' g B pk P na nn nc m':=
  ⟨h',Nat.le_trans h.2.1 t.size,t.blk h.2.2.1 (fun q=>q.elim h.ne (fun e=>by have:=h.2.2.2.1;omega)),h.2.2.2.1,hl⟩
theorem AY {k:Nat} (hk:k≤8) (m:WM) (v:Int):(AD k m v).b.length≤m.b.length+8:=by
  unfold AD;split
  · omega
  · have:=OR m.b v k;show (DK m.b v k).length≤_;omega
theorem Es {k most:Nat} (hk:k≤8) (m:WM) (s:List UInt8) (hs:s.length≤1100000) (hmo:most≤200:=by decide):(Cu k most m s).b.length≤m.b.length+208:=by
  have:=AY hk m s.length
  unfold Cu;split
  · show (AD k m s.length).b.length≤_;omega
  · show ((AD k m s.length).b++s).length≤_;rw [List.length_append];omega
theorem Lb (m:WM) (ok:Bool):(Ef m ok).b=m.b:=rfl
def shortP (P:PkM):Prop:=∀ o,o≤12→(P.S o).length≤1100000
theorem WrP.text {w:World} {g B pk:Nat} {P:PkM} {na:Option Addr} {nn nc:Nat} {m:WM} (h:WrP w g B pk P na nn nc m) (hS:shortP P) (k most o:Nat) (hk:k≤8) (hm:most≤1000) (ho:Hg o=true) (ho12:o≤12:=by decide) :
    Calls Tryz.prog 108 #[π g,ν k,ν most,.pointer (some ⟨pk,o,none⟩)] w fun e w'=>e=.returned (.tuple #[])∧CoP w' g B (Cu k most m (P.S o))∧Turns (fun x=>x=g∨B≤x) w w':=by
  have h1:=Ri P na nn nc ho
  obtain ⟨h2,h3⟩:=List.getElem?_eq_some_iff.1 h1
  have hs:=hS o ho12
  exact MQ h.1 h.2.1 k most hk hm pk o (P.S o) ω (by have:=h.2.2.2.2;omega) h.ne (by rw [← h3];exact h.2.2.1.cell h2) h.2.2.2.1
def Gw (xs:List UInt8) (k most:Nat) (s:RM) (o:Nat):RM:=⟨(BM xs k most s.at_ s.no (s.P.S o)).1,(BM xs k most s.at_ s.no (s.P.S o)).2.1,Pn s.P o (BM xs k most s.at_ s.no (s.P.S o)).2.2⟩
theorem RdP.text {W0 w:World} {g pk:Nat} {a:Option Addr} {c:Nat} {xs:List UInt8} {na:Option Addr} {nn nc:Nat} {s:RM} (h:RdP W0 w g pk a c xs na nn nc s) (r0:BB W0 a c xs) (hg:W0.heap.size≤g) (hpk:W0.heap.size≤pk) (hl:xs.length≤1000000) (k most o:Nat) (hk:k≤8) (hm:most≤1000) (ho:Hg o=true) (hs:(s.P.S o).length≤10000) :
    Calls Tryz.prog 108 #[π g,ν k,ν most,.pointer (some ⟨pk,o,none⟩)] w fun e w'=>e=.returned (.tuple #[])∧RdP W0 w' g pk a c xs na nn nc (Gw xs k most s o)∧Turns (fun x=>x=g∨x=pk) w w':=by
  obtain ⟨h1,h2,h3,h4⟩:=h
  refine (MN h1 r0 h4 hg h2 hl k most hk hm pk o 39 (pkC s.P na nn nc) (CR h3 h1 (by decide)) hpk h3 (s.P.S o) hs (Ri _ _ _ _ ho)).mono ?_
  rintro e w' ⟨rfl,q1,q2,q3,q4⟩
  rw [LD _ _ _ _ ho] at q3
  exact ⟨rfl,⟨q1,q2,q3,h4.trans (q4.below h4.size (fun x hx=>by rcases hx with e | e<;>rw [e]<;>assumption))⟩,q4⟩
def Nn (v:Int):Bool:=decide (1≤v)&&decide (v≤4)
def RA (m:WM) (P:PkM):WM:=[P.I 8,P.I 9].foldl (AD 8) (Cu 2 128 (AD 2 (AD 4 (Ef (AD 1 m (P.I 4)) (Nn (P.I 4))) (P.I 5)) (P.I 6)) (P.S 7))
theorem NQ {w:World} {g B pk:Nat} {P:PkM} {na:Option Addr} {nn nc:Nat} {m:WM} (h:WrP w g B pk P na nn nc m) (hP:Be P) (hS:shortP P) (hm:m.b.length≤1000) :
    Calls Tryz.prog 91 #[π g,π pk] w fun e w'=>e=.returned (.tuple #[])∧CoP w' g B (RA m P)∧Turns (fun x=>x=g∨B≤x) w w':=by
  unfold RA Nn
  have l1:(Ef (AD 1 m (P.I 4)) (decide (1≤P.I 4)&&decide (P.I 4≤4))).b.length≤1008:=by
    have:=AY (k:=1) (by decide) m (P.I 4);rw [Lb];omega
  have HV:=hid (MS h.1 h.2.1 h.2.2.1 hP ω)
  have H:=hid h
  generalize Ef (AD 1 m (P.I 4)) (decide (1≤P.I 4)&&decide (P.I 4≤4))=m1 at *
  obtain ⟨m2,hm2⟩:∃ m2,m2=AD 4 m1 (P.I 5):=⟨_,rfl⟩
  have l2:m2.b.length≤1016:=by have:=AY (k:=4) (by decide) m1 (P.I 5);rw [hm2];omega
  obtain ⟨m3,hm3⟩:∃ m3,m3=AD 2 m2 (P.I 6):=⟨_,rfl⟩
  have l3:m3.b.length≤1024:=by have:=AY (k:=2) (by decide) m2 (P.I 6);rw [hm3];omega
  obtain ⟨m4,hm4⟩:∃ m4,m4=Cu 2 128 m3 (P.S 7):=⟨_,rfl⟩
  have l4:m4.b.length≤1232:=by have:=Es (k:=2) (most:=128) (by decide) m3 (P.S 7) (hS 7 (by decide));rw [hm4];omega
  rw [← hm2,← hm3,← hm4]
  have HM2:=hid hm2;have HM3:=hid hm3;have HM4:=hid hm4
  clear h hm2 hm3 hm4
  go_enter Tryz.func91,Tryz.ntmps91
  go_wp2_with fail
  refine HV.out.mono ?_
  rintro e w1 ⟨rfl,h1,t1⟩
  have T1:=hid (t1.mono (Y:=fun x=>x=g∨B≤x) (fun _ q=>.inl q));have H1:=hid (H.out.of h1 (t1.mono (fun _ q=>.inl q)) ω)
  clear h1 t1
  go_wp2_with fail
  refine (Db H1.out.1 H1.out.2.1 H1.out.2.2.1 hP 4 (by decide) [5] (by decide) (by decide) ω).mono ?_
  rintro e w2 ⟨rfl,h2,t2⟩
  have h2:CoP w2 g B m2:=by rw [HM2.out];exact h2
  have T2:=hid (T1.out.trans (t2.mono (fun _ q=>.inl q)));have H2:=hid (H1.out.of h2 (t2.mono (fun _ q=>.inl q)) ω)
  clear h2 t2
  go_wp2_with fail
  refine (Db H2.out.1 H2.out.2.1 H2.out.2.2.1 hP 2 (by decide) [6] (by decide) (by decide) ω).mono ?_
  rintro e w3 ⟨rfl,h3,t3⟩
  have h3:CoP w3 g B m3:=by rw [HM3.out];exact h3
  have T3:=hid (T2.out.trans (t3.mono (fun _ q=>.inl q)));have H3:=hid (H2.out.of h3 (t3.mono (fun _ q=>.inl q)) ω)
  clear h3 t3
  go_wp2_with fail
  refine (H3.out.text hS 2 128 7 (by decide) (by decide) rfl).mono ?_
  rintro e w4 ⟨rfl,h4,t4⟩
  rw [← HM4.out] at h4
  have T4:=hid (T3.out.trans t4);have H4:=hid (H3.out.of h4 t4 ω)
  clear h4 t4
  go_wp2_with fail
  have HZ:=hid (fun (X:World) (b:Below w4.heap.size w4 X)=>Db (H4.out.of (by obtain ⟨a,c,q1,q2⟩:=H4.out.1;exact (⟨a,c,q1.mono b,q2.mono b⟩:CoP X g B m4)) (Turns.of_below b) ω).1 (Nat.le_trans H4.out.2.1 b.size) (H4.out.2.2.1.mono b) hP 8 (by decide) [8,9] (by decide) (by decide) ω)
  go_region_with (go_at_call 67;refine (HZ.out _ (Av (Below.refl _ _) 1)).mono ?_;rintro e w5 ⟨rfl,h5,t5⟩;have H5:=hid h5;have T5:=hid t5;clear h5 t5)
  all_goals
    go_wp2_with fail
    go_end0
    exact ⟨rfl,H5.out,(T4.out.trans (Turns.of_below (Av (Below.refl _ _) 1))).trans (T5.out.mono (fun _ q=>.inl q))⟩
end
section
theorem CK (xs:List UInt8) (k:Nat) (s:RM) (o:Nat):(AF xs k s o).P.S=s.P.S:=by unfold AF;split<;>rfl
def FP (xs:List UInt8) (s:RM):RM:=FW (AF xs 1 s 4) (Nn ((AF xs 1 s 4).P.I 4))
def Vw (xs:List UInt8) (s:RM):RM:=[8,9].foldl (AF xs 8) (Gw xs 2 128 (AF xs 2 (AF xs 4 (FP xs s) 5) 6) 7)
theorem RdP.drewN {W0 w:World} {g pk:Nat} {a:Option Addr} {c:Nat} {xs:List UInt8} {na:Option Addr} {nn nc:Nat} {s:RM} (h:RdP W0 w g pk a c xs na nn nc s) (n:Nat):RdP W0 (w.drewN n) g pk a c xs na nn nc s:=by
  have b:Below w.heap.size w (w.drewN n):=Av (Below.refl _ _) n
  obtain ⟨h1,h2,h3,h4⟩:=h
  exact ⟨Blk.mono h1 b,h2,h3.mono b,h4.trans (b.mono h4.size)⟩
theorem NP {W0 w:World} {g pk:Nat} {a:Option Addr} {c:Nat} {xs:List UInt8} {na:Option Addr} {nn nc:Nat} {s:RM} (h:RdP W0 w g pk a c xs na nn nc s) (r0:BB W0 a c xs) (hg:W0.heap.size≤g) (hpk:W0.heap.size≤pk) (hl:xs.length≤1000000) (hs:(s.P.S 7).length≤10000) :
    Calls Tryz.prog 91 #[π g,π pk] w fun e w'=>e=.returned (.tuple #[])∧RdP W0 w' g pk a c xs na nn nc (Vw xs s)∧Turns (fun x=>x=g∨x=pk) w w':=by
  unfold Vw
  have hV:=MR h r0 hg hpk hl
  have hs1:((FP xs s).P.S 7).length≤10000:=by
    have:(FP xs s).P.S=s.P.S:=CK xs 1 s 4
    rw [this];exact hs
  have HV:=hid (show Calls Tryz.prog 107 #[π g,π pk] w fun e w'=>e=.returned (.tuple #[])∧RdP W0 w' g pk a c xs na nn nc (FP xs s)∧Turns (fun x=>x=g∨x=pk) w w' from hV)
  have R0:=hid r0
  clear hV h r0
  generalize FP xs s=s1 at *
  obtain ⟨s2,hs2⟩:∃ s2,s2=AF xs 4 s1 5:=⟨_,rfl⟩
  obtain ⟨s3,hs3⟩:∃ s3,s3=AF xs 2 s2 6:=⟨_,rfl⟩
  obtain ⟨s4,hs4⟩:∃ s4,s4=Gw xs 2 128 s3 7:=⟨_,rfl⟩
  have hsz:(s3.P.S 7).length≤10000:=by rw [hs3,CK,hs2,CK];exact hs1
  rw [← hs2,← hs3,← hs4]
  have HS2:=hid hs2;have HS3:=hid hs3;have HS4:=hid hs4
  clear hs2 hs3 hs4 hs1
  go_enter Tryz.func91,Tryz.ntmps91
  go_wp2_with fail
  refine HV.out.mono ?_
  rintro e w1 ⟨rfl,h1,t1⟩
  have H1:=hid h1;have T1:=hid t1
  clear h1 t1
  go_wp2_with fail
  refine (Da H1.out R0.out hg hpk hl 4 (by decide) [5] (by decide) (by decide)).mono ?_
  rintro e w2 ⟨rfl,h2,t2⟩
  have H2:=hid (show RdP W0 w2 g pk a c xs na nn nc s2 by rw [HS2.out];exact h2);have T2:=hid (T1.out.trans t2)
  clear h2 t2
  go_wp2_with fail
  refine (Da H2.out R0.out hg hpk hl 2 (by decide) [6] (by decide) (by decide)).mono ?_
  rintro e w3 ⟨rfl,h3,t3⟩
  have H3:=hid (show RdP W0 w3 g pk a c xs na nn nc s3 by rw [HS3.out];exact h3);have T3:=hid (T2.out.trans t3)
  clear h3 t3
  go_wp2_with fail
  refine (H3.out.text R0.out hg hpk hl 2 128 7 (by decide) (by decide) rfl hsz).mono ?_
  rintro e w4 ⟨rfl,h4,t4⟩
  have H4:=hid (show RdP W0 w4 g pk a c xs na nn nc s4 by rw [HS4.out];exact h4);have T4:=hid (T3.out.trans t4)
  clear h4 t4
  go_wp2_with fail
  go_region_with (go_at_call 67;refine (Da (H4.out.drewN 1) R0.out hg hpk hl 8 (by decide) [8,9] (by decide) (by decide)).mono ?_;rintro e w5 ⟨rfl,h5,t5⟩;have H5:=hid h5;have T5:=hid t5;clear h5 t5)
  all_goals
    go_wp2_with fail
    go_end0
    exact ⟨rfl,H5.out,(T4.out.trans (Turns.of_below (Av (Below.refl _ _) 1))).trans T5.out⟩
end
section
theorem MK (P:PkM) (o:Nat):Ck P o (P.I o)=P:=by
  have:(fun k=>if k=o then P.I o else P.I k)=P.I:=by
    funext k
    by_cases e:k=o
    · rw [if_pos e,e]
    · rw [if_neg e]
  unfold Ck;rw [this]
theorem KD (w:World) (v:Int):∃ w1,w1=(w.alloc (Obj.cells #[Value.int IntKind.i64 v] 3)).alloc (Obj.cells #[Value.pointer (some { block:=w.heap.size,off:=0 })] 120)∧Below w.heap.size w w1∧w1.heap.size=w.heap.size+2∧Blk w1 w.heap.size 3 [ν v]∧Blk w1 (w.heap.size+1) 120 [π w.heap.size]:=by
  refine ⟨_,rfl,AT (CQ w _) _,by simp,(AP rfl _ _:Blk (w.alloc (Obj.cells #[Value.int IntKind.i64 v] 3)) w.heap.size 3 [ν v]).mono (CQ _ _),?_⟩
  have:Blk ((w.alloc (Obj.cells #[Value.int IntKind.i64 v] 3)).alloc (Obj.cells #[Value.pointer (some { block:=w.heap.size,off:=0 })] 120)) (w.alloc (Obj.cells #[Value.int IntKind.i64 v] 3)).heap.size 120 [π w.heap.size]:=AP rfl _ _
  simpa using this
theorem Lm {w:World} {g B pk:Nat} {P:PkM} {na:Option Addr} {nn nc:Nat} {m:WM} (h:WrP w g B pk P na nn nc m) (hP:Be P) (hm:m.b.length≤90000) :
    Calls Tryz.prog 109 #[π g,.pointer (some ⟨pk,19,none⟩)] w fun e w'=>e=.returned (.tuple #[])∧WrP w' g B pk P na nn nc (AD 1 m (P.I 19))∧Turns (fun x=>x=g∨x=pk∨B≤x) w w':=by
  have hne:=h.ne
  have hgl:g<w.heap.size:=by obtain ⟨⟨_,_,hb,_⟩,_⟩:=h;exact hb.lt
  have hpl:pk<w.heap.size:=h.2.2.1.lt
  have hBw:=h.2.1
  have c19:=Bw h.2.2.1 (o:=19) rfl
  have hv9:=hP 19
  unfold BJ at hv9
  obtain ⟨v,hv⟩:∃ v,v=P.I 19:=⟨_,rfl⟩
  rw [← hv] at c19 hv9 ⊢
  obtain ⟨w1,hw1,b1,s1,kn,ka⟩:=KD w v
  have h1:CoP w1 g B m:=by
    obtain ⟨a,c,hb,ho⟩:=h.1
    exact ⟨a,c,hb.mono b1,ho.mono b1⟩
  have hN:=ES h1 ω 1 (by decide) (some ⟨w.heap.size+1,0,none⟩) 1 w.heap.size [0] [v] rfl (by decide) ω (Ec ka 1 1 rfl ω)
    (fun _ b hb=>by obtain ⟨off,e⟩:=hb;cases e;omega) ω ω (fun i hi=>by
      obtain rfl:i=0:=by simp at hi;omega
      exact ⟨kn.cell (i:=0) (by simp),hv9⟩)
  rw [show [v].foldl (AD 1) m=AD 1 m v from rfl] at hN
  have HN:=hid hN;have HW1:=hid hw1;have B1:=hid b1;have KN:=hid kn;have H:=hid h;have HV:=hid hv
  clear hN hw1 b1 kn ka h h1 hv hv9
  go_enter Tryz.func109,Tryz.ntmps109
  go_wp2_with fail
  rw [← HW1.out]
  refine HN.out.mono ?_
  rintro e w2 ⟨rfl,h2,t2⟩
  have n2:w2.cell? ⟨w.heap.size,0,none⟩=some (ν v):=(t2.blk KN.out ω).cell (i:=0) (by simp)
  have hp2:=t2.blk (Blk.mono H.out.2.2.1 B1.out) hne
  have p2:=Bw hp2 (o:=19) rfl
  have f2:=hp2.frozen 19
  have T2:=hid t2;have H2:=hid h2;have HP2:=hid hp2
  clear t2 h2 hp2
  go_wp2_with fail
  go_end0
  have t3:Turns (fun x=>x=pk) w2 (w2.setCell ⟨pk,19,none⟩ (ν v)):=AG pk 19 _
  have hp3:Blk (w2.setCell ⟨pk,19,none⟩ (ν v)) pk 39 (pkC P na nn nc):=by
    have:=Blk.set HP2.out 19 (ν v)
    rw [Bz _ _ _ _ rfl,HV.out,MK] at this
    rw [HV.out];exact this
  have h3:CoP (w2.setCell ⟨pk,19,none⟩ (ν v)) g B (AD 1 m v):=by
    obtain ⟨a,c,hb,ho⟩:=H2.out
    exact ⟨a,c,t3.blk hb (fun q=>hne q.symm),Di ho HP2.out (by decide) 19 _⟩
  have ht:Turns (fun x=>x=g∨x=pk∨B≤x) w (w2.setCell ⟨pk,19,none⟩ (ν v)):=((Turns.of_below B1.out).trans (T2.out.mono (fun _ q=>.inl q))).trans (t3.mono (fun _ q=>.inr (.inl q)))
  refine ⟨rfl,⟨h3,Nat.le_trans hBw ht.size,hp3,H.out.2.2.2.1,?_⟩,ht⟩
  have:=AY (k:=1) (by decide) m v
  omega
theorem Ll {W0 w:World} {g pk:Nat} {a:Option Addr} {c:Nat} {xs:List UInt8} {na:Option Addr} {nn nc:Nat} {s:RM} (h:RdP W0 w g pk a c xs na nn nc s) (r0:BB W0 a c xs) (hg:W0.heap.size≤g) (hpk:W0.heap.size≤pk) (hl:xs.length≤1000000) :
    Calls Tryz.prog 109 #[π g,.pointer (some ⟨pk,19,none⟩)] w fun e w'=>e=.returned (.tuple #[])∧RdP W0 w' g pk a c xs na nn nc (AF xs 1 s 19)∧Turns (fun x=>x=g∨x=pk) w w':=by
  obtain ⟨h1,h2,h3,h4⟩:=h
  have hne:pk≠g:=CR h3 h1 (by decide)
  have hgl:=h1.lt
  have hpl:=h3.lt
  have hW0:=h4.size
  have c19:=Bw h3 (o:=19) rfl
  obtain ⟨v,hv⟩:∃ v,v=s.P.I 19:=⟨_,rfl⟩
  rw [← hv] at c19
  obtain ⟨w1,hw1,b1,s1,kn,ka⟩:=KD w v
  have hN:=ER (w:=w1) (s:=⟨s.at_,s.no,[ν v]⟩) (show CoG w1 g a c xs s.at_ s.no from Blk.mono h1 b1) r0 (h4.trans (b1.mono hW0)) hg h2 hl 1 (by decide) (some ⟨w.heap.size+1,0,none⟩) 1 w.heap.size 3 [0] (by decide) (Ec ka 1 1 rfl ω)
    (fun _ b hb=>by obtain ⟨off,e⟩:=hb;cases e;omega) ω hW0 kn (fun i hi=>by
      obtain rfl:i=0:=by simp at hi;omega
      exact Nat.one_pos)
  obtain ⟨nv,at1,no1,hS,hR⟩:∃ (nv:Int) (at1:Nat) (no1:Bool),[0].foldl (BH xs 1) ⟨s.at_,s.no,[ν v]⟩=⟨at1,no1,[ν nv]⟩∧AF xs 1 s 19=⟨at1,no1,Ck s.P 19 nv⟩:=by
    by_cases hno:s.no=true
    · refine ⟨v,s.at_,s.no,if_pos hno,?_⟩
      rw [hv,MK];exact if_pos hno
    · exact ⟨_,_,_,if_neg hno,if_neg hno⟩
  rw [hS] at hN
  rw [hR]
  have HN:=hid hN;have HW1:=hid hw1;have B1:=hid b1;have H3:=hid h3;have H4:=hid h4
  clear hN hw1 b1 kn ka h1 h3 h4 hv hS hR
  go_enter Tryz.func109,Tryz.ntmps109
  go_wp2_with fail
  rw [← HW1.out]
  refine HN.out.mono ?_
  rintro e w2 ⟨rfl,q1,q2,q3,_,t2⟩
  have n2:=q3.cell (i:=0) (by simp)
  simp only [List.getElem_cons_zero] at n2
  have hp2:=t2.blk (Blk.mono H3.out B1.out) (fun q=>q.elim hne (fun e=>ω))
  have p2:=Bw hp2 (o:=19) rfl
  have f2:=hp2.frozen 19
  have T2:=hid t2;have Q1:=hid q1;have Q2:=hid q2;have HP2:=hid hp2
  clear t2 q1 q2 q3 hp2
  go_wp2_with fail
  go_end0
  have t3:Turns (fun x=>x=pk) w2 (w2.setCell ⟨pk,19,none⟩ (ν nv)):=AG pk 19 _
  have hp3:Blk (w2.setCell ⟨pk,19,none⟩ (ν nv)) pk 39 (pkC (Ck s.P 19 nv) na nn nc):=by
    have:=Blk.set HP2.out 19 (ν nv)
    rw [Bz _ _ _ _ rfl] at this
    exact this
  have t23:Turns (fun x=>x=g∨x=w.heap.size∨x=pk) w1 (w2.setCell ⟨pk,19,none⟩ (ν nv)):=(T2.out.mono (Y:=fun x=>x=g∨x=w.heap.size∨x=pk) (fun _ q=>q.elim .inl (fun e=>.inr (.inl e)))).trans (t3.mono (fun _ q=>.inr (.inr q)))
  have ht:Turns (fun x=>x=g∨x=pk) w (w2.setCell ⟨pk,19,none⟩ (ν nv)):=(Turns.of_below B1.out).trans' t23 (fun x hx q=>by
    rcases q with e | e | e
    · exact .inl e
    · omega
    · exact .inr e)
  exact ⟨rfl,⟨t3.blk Q1.out (fun q=>hne q.symm),Q2.out,hp3,H4.out.trans (ht.below hW0 (fun x hx=>by rcases hx with e | e<;>rw [e]<;>assumption))⟩,ht⟩
end
section
def NR (m:WM) (P:PkM):WM:=AD 8 (Cu 2 128 (AD 1 (Ef (AD 1 m (P.I 4)) (Nn (P.I 4))) (P.I 19)) (P.S 7)) (P.I 8)
def Nw (xs:List UInt8) (s:RM):RM:=AF xs 8 (Gw xs 2 128 (AF xs 1 (FP xs s) 19) 7) 8
def Rn (m:WM) (P:PkM):WM:=AD 4 (AD 1 (Cu 1 100 (Cu 1 100 ([P.I 4,P.I 18].foldl (AD 1) m) (P.S 11)) (P.S 12)) (P.I 13)) (P.I 16)
def Rm (xs:List UInt8) (s:RM):RM:=AF xs 4 (AF xs 1 (Gw xs 1 100 (Gw xs 1 100 ([4,18].foldl (AF xs 1) s) 11) 12) 13) 16
theorem WrP.drewN {w:World} {g B pk:Nat} {P:PkM} {na:Option Addr} {nn nc:Nat} {m:WM} (h:WrP w g B pk P na nn nc m) (n:Nat):WrP (w.drewN n) g B pk P na nn nc m:=by
  have b:Below w.heap.size w (w.drewN n):=Av (Below.refl _ _) n
  obtain ⟨a,c,q1,q2⟩:=h.1
  exact h.of (⟨a,c,q1.mono b,q2.mono b⟩:CoP (w.drewN n) g B m) (Turns.of_below b) h.2.2.2.2
theorem Mi {w:World} {g B pk:Nat} {P:PkM} {na:Option Addr} {nn nc:Nat} {m:WM} (h:WrP w g B pk P na nn nc m) (hP:Be P) (hS:shortP P) (hm:m.b.length≤1000) :
    Calls Tryz.prog 92 #[π g,π pk] w fun e w'=>e=.returned (.tuple #[])∧WrP w' g B pk P na nn nc (NR m P)∧Turns (fun x=>x=g∨x=pk∨B≤x) w w':=by
  unfold NR Nn
  have l1:(Ef (AD 1 m (P.I 4)) (decide (1≤P.I 4)&&decide (P.I 4≤4))).b.length≤1008:=by
    have:=AY (k:=1) (by decide) m (P.I 4);rw [Lb];omega
  have HV:=hid (MS h.1 h.2.1 h.2.2.1 hP ω)
  have H:=hid h
  generalize Ef (AD 1 m (P.I 4)) (decide (1≤P.I 4)&&decide (P.I 4≤4))=m1 at *
  obtain ⟨m2,hm2⟩:∃ m2,m2=AD 1 m1 (P.I 19):=⟨_,rfl⟩
  have l2:m2.b.length≤1016:=by have:=AY (k:=1) (by decide) m1 (P.I 19);rw [hm2];omega
  obtain ⟨m3,hm3⟩:∃ m3,m3=Cu 2 128 m2 (P.S 7):=⟨_,rfl⟩
  have l3:m3.b.length≤1232:=by have:=Es (k:=2) (most:=128) (by decide) m2 (P.S 7) (hS 7 (by decide));rw [hm3];omega
  obtain ⟨m4,hm4⟩:∃ m4,m4=AD 8 m3 (P.I 8):=⟨_,rfl⟩
  have l4:m4.b.length≤1240:=by have:=AY (k:=8) (by decide) m3 (P.I 8);rw [hm4];omega
  rw [← hm2,← hm3,← hm4]
  have HM2:=hid hm2;have HM3:=hid hm3;have HM4:=hid hm4
  clear h hm2 hm3 hm4
  go_enter Tryz.func92,Tryz.ntmps92
  go_wp2_with fail
  refine HV.out.mono ?_
  rintro e w1 ⟨rfl,h1,t1⟩
  have T1:=hid (t1.mono (Y:=fun x=>x=g∨x=pk∨B≤x) (fun _ q=>.inl q));have H1:=hid (H.out.of h1 (t1.mono (fun _ q=>.inl q)) ω)
  clear h1 t1
  go_wp2_with fail
  refine (Lm H1.out hP ω).mono ?_
  rintro e w2 ⟨rfl,h2,t2⟩
  have h2:WrP w2 g B pk P na nn nc m2:=by rw [HM2.out];exact h2
  have T2:=hid (T1.out.trans t2);have H2:=hid h2
  clear h2 t2
  go_wp2_with fail
  refine (H2.out.text hS 2 128 7 (by decide) (by decide) rfl).mono ?_
  rintro e w3 ⟨rfl,h3,t3⟩
  have h3:CoP w3 g B m3:=by rw [HM3.out];exact h3
  have T3:=hid (T2.out.trans (t3.mono (fun _ q=>q.elim .inl (fun e=>.inr (.inr e)))));have H3:=hid (H2.out.of h3 t3 ω)
  clear h3 t3
  go_wp2_with fail
  refine (Db H3.out.1 H3.out.2.1 H3.out.2.2.1 hP 8 (by decide) [8] (by decide) (by decide) ω).mono ?_
  rintro e w4 ⟨rfl,h4,t4⟩
  have h4:CoP w4 g B m4:=by rw [HM4.out];exact h4
  have T4:=hid (T3.out.trans (t4.mono (fun _ q=>.inl q)));have H4:=hid (H3.out.of h4 (t4.mono (fun _ q=>.inl q)) ω)
  clear h4 t4
  go_wp2_with fail
  go_end0
  exact ⟨rfl,H4.out,T4.out⟩
theorem Mh {W0 w:World} {g pk:Nat} {a:Option Addr} {c:Nat} {xs:List UInt8} {na:Option Addr} {nn nc:Nat} {s:RM} (h:RdP W0 w g pk a c xs na nn nc s) (r0:BB W0 a c xs) (hg:W0.heap.size≤g) (hpk:W0.heap.size≤pk) (hl:xs.length≤1000000) (hs:(s.P.S 7).length≤10000) :
    Calls Tryz.prog 92 #[π g,π pk] w fun e w'=>e=.returned (.tuple #[])∧RdP W0 w' g pk a c xs na nn nc (Nw xs s)∧Turns (fun x=>x=g∨x=pk) w w':=by
  unfold Nw
  have hV:=MR h r0 hg hpk hl
  have hs1:((FP xs s).P.S 7).length≤10000:=by
    have:(FP xs s).P.S=s.P.S:=CK xs 1 s 4
    rw [this];exact hs
  have HV:=hid (show Calls Tryz.prog 107 #[π g,π pk] w fun e w'=>e=.returned (.tuple #[])∧RdP W0 w' g pk a c xs na nn nc (FP xs s)∧Turns (fun x=>x=g∨x=pk) w w' from hV)
  have R0:=hid r0
  clear hV h r0
  generalize FP xs s=s1 at *
  obtain ⟨s2,hs2⟩:∃ s2,s2=AF xs 1 s1 19:=⟨_,rfl⟩
  obtain ⟨s3,hs3⟩:∃ s3,s3=Gw xs 2 128 s2 7:=⟨_,rfl⟩
  obtain ⟨s4,hs4⟩:∃ s4,s4=AF xs 8 s3 8:=⟨_,rfl⟩
  have hsz:(s2.P.S 7).length≤10000:=by rw [hs2,CK];exact hs1
  rw [← hs2,← hs3,← hs4]
  have HS2:=hid hs2;have HS3:=hid hs3;have HS4:=hid hs4
  clear hs2 hs3 hs4 hs1
  go_enter Tryz.func92,Tryz.ntmps92
  go_wp2_with fail
  refine HV.out.mono ?_
  rintro e w1 ⟨rfl,h1,t1⟩
  have H1:=hid h1;have T1:=hid t1
  clear h1 t1
  go_wp2_with fail
  refine (Ll H1.out R0.out hg hpk hl).mono ?_
  rintro e w2 ⟨rfl,h2,t2⟩
  have H2:=hid (show RdP W0 w2 g pk a c xs na nn nc s2 by rw [HS2.out];exact h2);have T2:=hid (T1.out.trans t2)
  clear h2 t2
  go_wp2_with fail
  refine (H2.out.text R0.out hg hpk hl 2 128 7 (by decide) (by decide) rfl hsz).mono ?_
  rintro e w3 ⟨rfl,h3,t3⟩
  have H3:=hid (show RdP W0 w3 g pk a c xs na nn nc s3 by rw [HS3.out];exact h3);have T3:=hid (T2.out.trans t3)
  clear h3 t3
  go_wp2_with fail
  refine (Da H3.out R0.out hg hpk hl 8 (by decide) [8] (by decide) (by decide)).mono ?_
  rintro e w4 ⟨rfl,h4,t4⟩
  have H4:=hid (show RdP W0 w4 g pk a c xs na nn nc s4 by rw [HS4.out];exact h4);have T4:=hid (T3.out.trans t4)
  clear h4 t4
  go_wp2_with fail
  go_end0
  exact ⟨rfl,H4.out,T4.out⟩
theorem Pg {w:World} {g B pk:Nat} {P:PkM} {na:Option Addr} {nn nc:Nat} {m:WM} (h:WrP w g B pk P na nn nc m) (hP:Be P) (hS:shortP P) (hm:m.b.length≤1000) :
    Calls Tryz.prog 93 #[π g,π pk] w fun e w'=>e=.returned (.tuple #[])∧WrP w' g B pk P na nn nc (Rn m P)∧Turns (fun x=>x=g∨x=pk∨B≤x) w w':=by
  unfold Rn
  obtain ⟨m1,hm1⟩:∃ m1,m1=[P.I 4,P.I 18].foldl (AD 1) m:=⟨_,rfl⟩
  have l1:m1.b.length≤1016:=by have:=CH 1 [P.I 4,P.I 18] m;rw [hm1];simp at this;simp;omega
  obtain ⟨m2,hm2⟩:∃ m2,m2=Cu 1 100 m1 (P.S 11):=⟨_,rfl⟩
  have l2:m2.b.length≤1224:=by have:=Es (k:=1) (most:=100) (by decide) m1 (P.S 11) (hS 11 (by decide));rw [hm2];omega
  obtain ⟨m3,hm3⟩:∃ m3,m3=Cu 1 100 m2 (P.S 12):=⟨_,rfl⟩
  have l3:m3.b.length≤1432:=by have:=Es (k:=1) (most:=100) (by decide) m2 (P.S 12) (hS 12 (by decide));rw [hm3];omega
  obtain ⟨m4,hm4⟩:∃ m4,m4=AD 1 m3 (P.I 13):=⟨_,rfl⟩
  have l4:m4.b.length≤1440:=by have:=AY (k:=1) (by decide) m3 (P.I 13);rw [hm4];omega
  obtain ⟨m5,hm5⟩:∃ m5,m5=AD 4 m4 (P.I 16):=⟨_,rfl⟩
  have l5:m5.b.length≤1448:=by have:=AY (k:=4) (by decide) m4 (P.I 16);rw [hm5];omega
  rw [← hm1,← hm2,← hm3,← hm4,← hm5]
  have HM1:=hid hm1;have HM2:=hid hm2;have HM3:=hid hm3;have HM4:=hid hm4;have HM5:=hid hm5
  have hz:=Db (h.drewN 1).1 (h.drewN 1).2.1 (h.drewN 1).2.2.1 hP 1 (by decide) [4,18] (by decide) (by decide) ω
  have HZ:=hid (hz.mono fun e w1 z=>(⟨z.1,(h.drewN 1).of (show CoP w1 g B m1 by rw [hm1];exact z.2.1) (z.2.2.mono (fun _ q=>.inl q)) ω,(Turns.of_below (X:=fun x=>x=g∨x=pk∨B≤x) (Av (Below.refl w.heap.size w) 1)).trans (z.2.2.mono (fun _ q=>.inl q))⟩:e=.returned (.tuple #[])∧WrP w1 g B pk P na nn nc m1∧Turns (fun x=>x=g∨x=pk∨B≤x) w w1))
  have H:=hid h
  clear h hz hm1 hm2 hm3 hm4 hm5
  go_enter Tryz.func93,Tryz.ntmps93
  go_wp2_with fail
  go_region_with (go_at_call 67;refine HZ.out.mono ?_;rintro e w1 ⟨rfl,h1,t1⟩;have H1:=hid h1;have T1:=hid t1;clear h1 t1)
  all_goals
    go_wp2_with fail
    refine (H1.out.text hS 1 100 11 (by decide) (by decide) rfl).mono ?_
    rintro e w2 ⟨rfl,h2,t2⟩
    have h2:CoP w2 g B m2:=by rw [HM2.out];exact h2
    have T2:=hid (T1.out.trans (t2.mono (fun _ q=>q.elim .inl (fun e=>.inr (.inr e)))));have H2:=hid (H1.out.of h2 t2 ω)
    clear h2 t2
    go_wp2_with fail
    refine (H2.out.text hS 1 100 12 (by decide) (by decide) rfl).mono ?_
    rintro e w3 ⟨rfl,h3,t3⟩
    have h3:CoP w3 g B m3:=by rw [HM3.out];exact h3
    have T3:=hid (T2.out.trans (t3.mono (fun _ q=>q.elim .inl (fun e=>.inr (.inr e)))));have H3:=hid (H2.out.of h3 t3 ω)
    clear h3 t3
    go_wp2_with fail
    refine (Db H3.out.1 H3.out.2.1 H3.out.2.2.1 hP 1 (by decide) [13] (by decide) (by decide) ω).mono ?_
    rintro e w4 ⟨rfl,h4,t4⟩
    have h4:CoP w4 g B m4:=by rw [HM4.out];exact h4
    have T4:=hid (T3.out.trans (t4.mono (fun _ q=>.inl q)));have H4:=hid (H3.out.of h4 (t4.mono (fun _ q=>.inl q)) ω)
    clear h4 t4
    go_wp2_with fail
    refine (Db H4.out.1 H4.out.2.1 H4.out.2.2.1 hP 4 (by decide) [16] (by decide) (by decide) ω).mono ?_
    rintro e w5 ⟨rfl,h5,t5⟩
    have h5:CoP w5 g B m5:=by rw [HM5.out];exact h5
    have T5:=hid (T4.out.trans (t5.mono (fun _ q=>.inl q)));have H5:=hid (H4.out.of h5 (t5.mono (fun _ q=>.inl q)) ω)
    clear h5 t5
    go_wp2_with fail
    go_end0
    exact ⟨rfl,H5.out,T5.out⟩
theorem Pf {W0 w:World} {g pk:Nat} {a:Option Addr} {c:Nat} {xs:List UInt8} {na:Option Addr} {nn nc:Nat} {s:RM} (h:RdP W0 w g pk a c xs na nn nc s) (r0:BB W0 a c xs) (hg:W0.heap.size≤g) (hpk:W0.heap.size≤pk) (hl:xs.length≤1000000) (hs:(s.P.S 11).length≤10000∧(s.P.S 12).length≤10000) :
    Calls Tryz.prog 93 #[π g,π pk] w fun e w'=>e=.returned (.tuple #[])∧RdP W0 w' g pk a c xs na nn nc (Rm xs s)∧Turns (fun x=>x=g∨x=pk) w w':=by
  unfold Rm
  have R0:=hid r0;have H:=hid h
  obtain ⟨s1,hs1⟩:∃ s1,s1=[4,18].foldl (AF xs 1) s:=⟨_,rfl⟩
  have e1:s1.P.S=s.P.S:=by rw [hs1];show (AF xs 1 (AF xs 1 s 4) 18).P.S=_;rw [CK,CK]
  obtain ⟨s2,hs2⟩:∃ s2,s2=Gw xs 1 100 s1 11:=⟨_,rfl⟩
  have e2:s2.P.S 12=s.P.S 12:=by rw [hs2,← e1];rfl
  obtain ⟨s3,hs3⟩:∃ s3,s3=Gw xs 1 100 s2 12:=⟨_,rfl⟩
  obtain ⟨s4,hs4⟩:∃ s4,s4=AF xs 1 s3 13:=⟨_,rfl⟩
  obtain ⟨s5,hs5⟩:∃ s5,s5=AF xs 4 s4 16:=⟨_,rfl⟩
  have z1:(s1.P.S 11).length≤10000:=by rw [e1];exact hs.1
  have z2:(s2.P.S 12).length≤10000:=by rw [e2];exact hs.2
  rw [← hs1,← hs2,← hs3,← hs4,← hs5]
  have HS1:=hid hs1;have HS2:=hid hs2;have HS3:=hid hs3;have HS4:=hid hs4;have HS5:=hid hs5
  clear h r0 hs1 hs2 hs3 hs4 hs5 e1 e2 hs
  go_enter Tryz.func93,Tryz.ntmps93
  go_wp2_with fail
  go_region_with (go_at_call 67;refine (Da (H.out.drewN 1) R0.out hg hpk hl 1 (by decide) [4,18] (by decide) (by decide)).mono ?_;rintro e w1 ⟨rfl,h1,t1⟩;have H1:=hid (show RdP W0 w1 g pk a c xs na nn nc s1 by rw [HS1.out];exact h1);have T1:=hid ((Turns.of_below (X:=fun x=>x=g∨x=pk) (Av (Below.refl w.heap.size w) 1)).trans t1);clear h1 t1)
  all_goals
    go_wp2_with fail
    refine (H1.out.text R0.out hg hpk hl 1 100 11 (by decide) (by decide) rfl z1).mono ?_
    rintro e w2 ⟨rfl,h2,t2⟩
    have H2:=hid (show RdP W0 w2 g pk a c xs na nn nc s2 by rw [HS2.out];exact h2);have T2:=hid (T1.out.trans t2)
    clear h2 t2
    go_wp2_with fail
    refine (H2.out.text R0.out hg hpk hl 1 100 12 (by decide) (by decide) rfl z2).mono ?_
    rintro e w3 ⟨rfl,h3,t3⟩
    have H3:=hid (show RdP W0 w3 g pk a c xs na nn nc s3 by rw [HS3.out];exact h3);have T3:=hid (T2.out.trans t3)
    clear h3 t3
    go_wp2_with fail
    refine (Da H3.out R0.out hg hpk hl 1 (by decide) [13] (by decide) (by decide)).mono ?_
    rintro e w4 ⟨rfl,h4,t4⟩
    have H4:=hid (show RdP W0 w4 g pk a c xs na nn nc s4 by rw [HS4.out];exact h4);have T4:=hid (T3.out.trans t4)
    clear h4 t4
    go_wp2_with fail
    refine (Da H4.out R0.out hg hpk hl 4 (by decide) [16] (by decide) (by decide)).mono ?_
    rintro e w5 ⟨rfl,h5,t5⟩
    have H5:=hid (show RdP W0 w5 g pk a c xs na nn nc s5 by rw [HS5.out];exact h5);have T5:=hid (T4.out.trans t5)
    clear h5 t5
    go_wp2_with fail
    go_end0
    exact ⟨rfl,H5.out,T5.out⟩
end
section
def Lx (m:WM) (N:List (List UInt8)):WM:=if (Ef (AD 1 m N.length) (decide (N.length≤16))).no=true then Ef (AD 1 m N.length) (decide (N.length≤16)) else N.foldl (Cu 1 12) (Ef (AD 1 m N.length) (decide (N.length≤16)))
theorem Sb (N:List (List UInt8)) (h:∀ s∈N,s.length≤1100000) (m:WM):(N.foldl (Cu 1 12) m).b.length≤m.b.length+208*N.length:=by
  induction N generalizing m with
  | nil=>simp
  | cons s N ih=>
    have h1:=ih (fun q hq=>h q (List.mem_cons_of_mem _ hq)) (Cu 1 12 m s)
    have h2:=Es (k:=1) (most:=12) (by decide) m s (h s (List.mem_cons_self ..))
    simp only [List.foldl_cons,List.length_cons,Nat.mul_add,Nat.mul_one] at *
    omega
theorem Qm {w:World} {g B pk:Nat} {P:PkM} {na:Option Addr} {nc:Nat} {m:WM} (h:WrP w g B pk P na P.N.length nc m) (hN:∀ s∈P.N,s.length≤1100000) (hn9:P.N.length≤1100000) (hr:Row w 1 na P.N.length nc (P.N.map AS)) (hrb:0<P.N.length→∀ b,(∃ off,na=some ⟨b,off,none⟩)→b≠g∧b<B) (hm:m.b.length≤2000) :
    Calls Tryz.prog 110 #[π g,.pointer (some ⟨pk,23,none⟩)] w fun e w'=>e=.returned (.tuple #[])∧WrP w' g B pk P na P.N.length nc (Lx m P.N)∧Turns (fun x=>x=g∨B≤x) w w':=by
  have hne:=h.ne
  have hgl:g<w.heap.size:=by obtain ⟨⟨_,_,hb,_⟩,_⟩:=h;exact hb.lt
  have hpl:pk<w.heap.size:=h.2.2.1.lt
  have hpB:pk<B:=h.2.2.2.1
  have hBw:=h.2.1
  unfold Lx
  obtain ⟨n,hn⟩:∃ n,n=P.N.length:=⟨_,rfl⟩
  rw [← hn] at h hn9 hr hrb ⊢
  have c23:w.cell? ⟨pk,23,none⟩=some (.slice na n nc):=by
    have:=h.2.2.1.cell (i:=23) (by show 23<43;omega)
    exact this
  obtain ⟨w1,hw1,b1,s1,kn,ka⟩:=KD w (n:Int)
  have h1:CoP w1 g B m:=by
    obtain ⟨a,c,hb,ho⟩:=h.1
    exact ⟨a,c,hb.mono b1,ho.mono b1⟩
  have hNn:=ES h1 ω 1 (by decide) (some ⟨w.heap.size+1,0,none⟩) 1 w.heap.size [0] [(n:Int)] rfl (by decide) ω (Ec ka 1 1 rfl ω)
    (fun _ b hb=>by obtain ⟨off,e⟩:=hb;cases e;omega) ω ω (fun i hi=>by
      obtain rfl:i=0:=by simp at hi;omega
      exact ⟨kn.cell (i:=0) (by simp),by show (n:Int)≤_;omega⟩)
  rw [show [(n:Int)].foldl (AD 1) m=AD 1 m n from rfl] at hNn
  have l1:(AD 1 m n).b.length≤2008:=by have:=AY (k:=1) (by decide) m n;omega
  generalize AD 1 m n=m1 at *
  obtain ⟨okb,hok⟩:∃ okb,decide (n≤16)=okb:=⟨_,rfl⟩
  rw [hok]
  have hok2:decide ((n:Int)≤16)=okb:=by rw [← hok];exact decide_eq_decide.2 ω
  obtain ⟨m2,hm2⟩:∃ m2,m2=Ef m1 okb:=⟨_,rfl⟩
  have l2:m2.b.length≤2008:=by rw [hm2];exact l1
  rw [← hm2]
  have HN:=hid hNn;have HW1:=hid hw1;have B1:=hid b1;have KN:=hid kn;have H:=hid h;have HM2:=hid hm2;have HR:=hid hr;have HRB:=hid hrb;have HNL:=hid hn;have HNS:=hid hN
  clear hNn hw1 b1 kn ka h h1 hm2 hr hrb hn hN
  cases hno:m2.no with
  | true=>
    simp only [if_true]
    go_enter Tryz.func110,Tryz.ntmps110
    go_wp2_with fail
    rw [← HW1.out]
    refine HN.out.mono ?_
    rintro e w2 ⟨rfl,h2,t2⟩
    have n2:w2.cell? ⟨w.heap.size,0,none⟩=some (ν (n:Int)):=(t2.blk KN.out ω).cell (i:=0) (by simp)
    have T2:=hid t2;have H2:=hid h2
    clear t2 h2
    go_wp2_with fail
    refine (CoP.chk H2.out okb).mono ?_
    rintro e w3 ⟨rfl,h3,t3⟩
    rw [← HM2.out] at h3
    have x3:w3.cell? ⟨g,3,none⟩=some (.bool true):=by
      obtain ⟨a,c,hb,_⟩:=h3
      have:=hb.cell (i:=3) (by simp)
      rw [this];simp [hno]
    have T3:=hid (T2.out.trans t3);have H3:=hid h3
    clear h3 t3 n2
    go_wp2_with fail
    refine bodyPost_ret (results_none rfl _ _ _) rfl ?_
    have ht:Turns (fun x=>x=g∨B≤x) w w3:=(Turns.of_below B1.out).trans (T3.out.mono (fun _ q=>.inl q))
    exact ⟨rfl,H.out.of H3.out ht ω,ht⟩
  | false=>
    simp only [Bool.false_eq_true,if_false]
    have hn16:n≤16:=by
      have:okb=true:=by
        have:=HM2.out;rw [this] at hno
        simp only [Ef,Bool.or_eq_false_iff] at hno
        simpa using hno.2
      rw [this] at hok;exact of_decide_eq_true hok
    go_enter Tryz.func110,Tryz.ntmps110
    go_wp2_with fail
    rw [← HW1.out]
    refine HN.out.mono ?_
    rintro e w2 ⟨rfl,h2,t2⟩
    have n2:w2.cell? ⟨w.heap.size,0,none⟩=some (ν (n:Int)):=(t2.blk KN.out ω).cell (i:=0) (by simp)
    have T2:=hid t2;have H2:=hid h2
    clear t2 h2
    go_wp2_with fail
    refine (CoP.chk H2.out okb).mono ?_
    rintro e w3 ⟨rfl,h3,t3⟩
    rw [← HM2.out] at h3
    obtain ⟨x0,x3⟩:w3.cell? ⟨g,0,none⟩=some (.bool true)∧w3.cell? ⟨g,3,none⟩=some (.bool false):=by
      obtain ⟨a,c,hb,_⟩:=h3
      have q0:=hb.cell (i:=0) (by simp)
      have q3:=hb.cell (i:=3) (by simp)
      refine ⟨q0,?_⟩
      rw [q3];simp [hno]
    have ht:Turns (fun x=>x=g∨B≤x) w w3:=(Turns.of_below B1.out).trans ((T2.out.trans t3).mono (fun _ q=>.inl q))
    have H3:=hid (H.out.of h3 ht ω);have HT:=hid ht
    have y23:w3.cell? ⟨pk,23,none⟩=some (.slice na n nc):=(World.cell?_of_block (ht.block pk hpl (fun q=>q.elim hne (fun e=>ω)))).trans c23
    clear h3 t3 n2 ht
    go_wp2_with fail
    go_loopw [38,5] (fun i _ wr=>∃ j:Nat,j≤n∧i=ν j∧WrP wr g B pk P na n nc ((P.N.take j).foldl (Cu 1 12) m2)∧Turns (fun x=>x=g∨B≤x) w wr) (fun i _ _=>n-(intOf i).toNat)
    case atStart=>exact ⟨0,Nat.zero_le _,rfl,H3.out,HT.out⟩
    case round=>
      obtain ⟨j,hj,rfl,hm',ht⟩:=hrel
      by_cases hlt:j<n
      · have d0:decide ((j:Int)<(n:Int))=true:=decide_eq_true ω
        have hjN:j<P.N.length:=by have:=HNL.out;omega
        have hlen:=Sb (P.N.take j) (fun s hs=>HNS.out s (List.mem_of_mem_take hs)) m2
        have hlen2:((P.N.take j).foldl (Cu 1 12) m2).b.length≤6000:=by
          have:(P.N.take j).length≤16:=by rw [List.length_take];omega
          omega
        have hstep:(P.N.take (j+1)).foldl (Cu 1 12) m2=Cu 1 12 ((P.N.take j).foldl (Cu 1 12) m2) P.N[j]:=by
          rw [List.take_add_one,List.foldl_append]
          simp [hjN]
        obtain ⟨ra,roff,rfl,hrl,hrc⟩:=HR.out.at ω
        obtain ⟨hrg,hrB⟩:=HRB.out ω ra ⟨roff,rfl⟩
        have p0:wr.cell? ⟨ra,roff+j,none⟩=some (AS P.N[j]):=(World.cell?_of_block (ht.block ra hrl (fun q=>q.elim hrg (fun e=>ω)))).trans (hrc j _ (by simp [hjN]))
        have p23:wr.cell? ⟨pk,23,none⟩=some (.slice (some ⟨ra,roff,none⟩) n nc):=hm'.2.2.1.cell (i:=23) (by show 23<43;omega)
        have hs2:=HNS.out P.N[j] (List.getElem_mem hjN)
        generalize (P.N.take j).foldl (Cu 1 12) m2=m3 at *
        have HTX:=hid (MQ hm'.1 hm'.2.1 1 12 (by decide) (by decide) ra (roff+j) P.N[j] ω ω hrg p0 hrB)
        have HS:=hid hstep;have HM:=hid hm';have HTT:=hid ht
        have hl4:=Es (k:=1) (most:=12) (by decide) m3 P.N[j] hs2
        clear hstep hm' ht hrc p0 c23 y23
        go_wp2_with fail
        refine HTX.out.mono ?_
        rintro e w4 ⟨rfl,h4,t4⟩
        have H4:=hid (HM.out.of h4 t4 ω);have T4:=hid (HTT.out.trans t4)
        clear h4 t4 p23
        go_wp2_with fail
        go_roundw
        case rel=>exact ⟨j+1,ω,by go_num,by rw [HS.out];exact H4.out,T4.out⟩
        case measure=>simp [intOf];omega
      · have d0:decide ((j:Int)<(n:Int))=false:=decide_eq_false ω
        have HM:=hid hm';have HTT:=hid ht
        clear hm' ht
        go_wp2_with fail
        go_end0
        have e:=HM.out
        rw [List.take_of_length_le (by have:=HNL.out;omega)] at e
        exact ⟨rfl,e,HTT.out⟩
end
section
def Uj (m:WM) (P:PkM):WM:=AD 2 ([P.I 28,P.I 29].foldl (AD 1) (AD 2 ([P.I 24,P.I 25].foldl (AD 1) (AD 4 (AD 8 (AD 1 (AD 1 (AD 1 (m) (P.I 4)) (P.I 19)) (P.I 18)) (P.I 27)) (P.I 5))) (P.I 26))) (P.I 30)
def NC (m:WM) (P:PkM):WM:=Lx (([31,32,33,34].map P.I).foldl (AD 1) (Uj m P)) P.N
theorem WrP.nums {w:World} {g B pk:Nat} {P:PkM} {na:Option Addr} {nn nc:Nat} {m:WM} (h:WrP w g B pk P na nn nc m) (hP:Be P) (k:Nat) (hk:k≤8) (os:List Nat) (ho:∀ o∈os,DT o=true) (hfew:os.length≤10) (hl:m.b.length≤90000) (m':WM) (hm':(os.map P.I).foldl (AD k) m=m') :
    Calls Tryz.prog 67 #[π g,ν k,.slice (some ⟨w.heap.size,0,none⟩) os.length os.length] (w.alloc (.cells ((os.map fun o=>(.pointer (some ⟨pk,o,none⟩):Value))).toArray 120))
      fun e w'=>e=.returned (.tuple #[])∧WrP w' g B pk P na nn nc m'∧Turns (fun x=>x=g∨x=pk∨B≤x) w w':=by
  refine (Db h.1 h.2.1 h.2.2.1 hP k hk os ho hfew ω).mono ?_
  rintro e w' ⟨rfl,h1,t1⟩
  rw [hm'] at h1
  refine ⟨rfl,h.of h1 (t1.mono (fun _ q=>.inl q)) ?_,t1.mono (fun _ q=>.inl q)⟩
  have:=CH k (os.map P.I) m
  rw [hm',List.length_map] at this
  have h8:k*os.length≤80:=Nat.mul_le_mul hk hfew
  omega
theorem NB {w:World} {g B pk:Nat} {P:PkM} {na:Option Addr} {nc:Nat} {m:WM} (h:WrP w g B pk P na P.N.length nc m) (hP:Be P) (hS:shortP P) (hN:∀ s∈P.N,s.length≤1100000) (hn9:P.N.length≤1100000) (hr:Row w 1 na P.N.length nc (P.N.map AS)) (hrb:0<P.N.length→∀ b,(∃ off,na=some ⟨b,off,none⟩)→b≠g∧b≠pk∧b<B) (hm:m.b.length≤1000) :
    Calls Tryz.prog 94 #[π g,π pk] w fun e w'=>e=.returned (.tuple #[])∧WrP w' g B pk P na P.N.length nc (NC m P)∧Turns (fun x=>x=g∨x=pk∨B≤x) w w':=by
  unfold NC Uj
  obtain ⟨m1,hm1⟩:∃ m1,m1=AD 1 m (P.I 4):=⟨_,rfl⟩
  have l1:m1.b.length≤1008:=by rw [hm1];have:=AY (k:=1) (by decide) m (P.I 4);omega
  obtain ⟨m2,hm2⟩:∃ m2,m2=AD 1 m1 (P.I 19):=⟨_,rfl⟩
  have l2:m2.b.length≤1016:=by rw [hm2];have:=AY (k:=1) (by decide) m1 (P.I 19);omega
  obtain ⟨m3,hm3⟩:∃ m3,m3=AD 1 m2 (P.I 18):=⟨_,rfl⟩
  have l3:m3.b.length≤1024:=by rw [hm3];have:=AY (k:=1) (by decide) m2 (P.I 18);omega
  obtain ⟨m4,hm4⟩:∃ m4,m4=AD 8 m3 (P.I 27):=⟨_,rfl⟩
  have l4:m4.b.length≤1032:=by rw [hm4];have:=AY (k:=8) (by decide) m3 (P.I 27);omega
  obtain ⟨m5,hm5⟩:∃ m5,m5=AD 4 m4 (P.I 5):=⟨_,rfl⟩
  have l5:m5.b.length≤1040:=by rw [hm5];have:=AY (k:=4) (by decide) m4 (P.I 5);omega
  obtain ⟨m6,hm6⟩:∃ m6,m6=[P.I 24,P.I 25].foldl (AD 1) m5:=⟨_,rfl⟩
  have l6:m6.b.length≤1056:=by rw [hm6];have:=CH 1 [P.I 24,P.I 25] m5;simp at this;simp;omega
  obtain ⟨m7,hm7⟩:∃ m7,m7=AD 2 m6 (P.I 26):=⟨_,rfl⟩
  have l7:m7.b.length≤1064:=by rw [hm7];have:=AY (k:=2) (by decide) m6 (P.I 26);omega
  obtain ⟨m8,hm8⟩:∃ m8,m8=[P.I 28,P.I 29].foldl (AD 1) m7:=⟨_,rfl⟩
  have l8:m8.b.length≤1080:=by rw [hm8];have:=CH 1 [P.I 28,P.I 29] m7;simp at this;simp;omega
  obtain ⟨m9,hm9⟩:∃ m9,m9=AD 2 m8 (P.I 30):=⟨_,rfl⟩
  have l9:m9.b.length≤1088:=by rw [hm9];have:=AY (k:=2) (by decide) m8 (P.I 30);omega
  rw [← hm1,← hm2,← hm3,← hm4,← hm5,← hm6,← hm7,← hm8,← hm9]
  have HM1:=hid hm1;have HM2:=hid hm2;have HM3:=hid hm3;have HM4:=hid hm4;have HM5:=hid hm5;have HM6:=hid hm6;have HM7:=hid hm7;have HM8:=hid hm8;have HM9:=hid hm9
  have H0:=hid h;have HR:=hid hr;have HRB:=hid hrb
  have T0:=hid (Turns.refl (fun x=>x=g∨x=pk∨B≤x) w)
  clear h hr hrb hm1 hm2 hm3 hm4 hm5 hm6 hm7 hm8 hm9
  go_enter Tryz.func94,Tryz.ntmps94
  go_wp2_with fail
  refine (H0.out.nums hP 1 (by decide) [4] (by decide) (by decide) ω m1 HM1.out.symm).mono ?_
  rintro e w1 ⟨rfl,h1,t1⟩
  have H1:=hid h1;have T1:=hid (T0.out.trans t1);clear h1 t1
  go_wp2_with fail
  refine (Lm H1.out hP ω).mono ?_
  rintro e w2 ⟨rfl,h2,t2⟩
  rw [← HM2.out] at h2
  have H2:=hid h2;have T2:=hid (T1.out.trans t2);clear h2 t2
  go_wp2_with fail
  refine (H2.out.nums hP 1 (by decide) [18] (by decide) (by decide) ω m3 HM3.out.symm).mono ?_
  rintro e w3 ⟨rfl,h3,t3⟩
  have H3:=hid h3;have T3:=hid (T2.out.trans t3);clear h3 t3
  go_wp2_with fail
  refine (H3.out.nums hP 8 (by decide) [27] (by decide) (by decide) ω m4 HM4.out.symm).mono ?_
  rintro e w4 ⟨rfl,h4,t4⟩
  have H4:=hid h4;have T4:=hid (T3.out.trans t4);clear h4 t4
  go_wp2_with fail
  refine (H4.out.nums hP 4 (by decide) [5] (by decide) (by decide) ω m5 HM5.out.symm).mono ?_
  rintro e w5 ⟨rfl,h5,t5⟩
  have H5:=hid h5;have T5:=hid (T4.out.trans t5);clear h5 t5
  go_wp2_with fail
  go_region
  all_goals
    go_wp2_with fail
  go_region_with (go_at_call 67;refine ((H5.out.drewN 2).nums hP 1 (by decide) [24,25] (by decide) (by decide) ω m6 HM6.out.symm).mono ?_;rintro e w6 ⟨rfl,h6,t6⟩;have H6:=hid h6;have T6:=hid ((T5.out.trans (Turns.of_below (Av (Below.refl _ _) 2))).trans t6);clear h6 t6)
  go_wp2_with fail
  refine (H6.out.nums hP 2 (by decide) [26] (by decide) (by decide) ω m7 HM7.out.symm).mono ?_
  rintro e w7 ⟨rfl,h7,t7⟩
  have H7:=hid h7;have T7:=hid (T6.out.trans t7);clear h7 t7
  go_wp2_with fail
  go_region_with (go_at_call 67;refine ((H7.out.drewN 1).nums hP 1 (by decide) [28,29] (by decide) (by decide) ω m8 HM8.out.symm).mono ?_;rintro e w8 ⟨rfl,h8,t8⟩;have H8:=hid h8;have T8:=hid ((T7.out.trans (Turns.of_below (Av (Below.refl _ _) 1))).trans t8);clear h8 t8)
  go_wp2_with fail
  refine (H8.out.nums hP 2 (by decide) [30] (by decide) (by decide) ω m9 HM9.out.symm).mono ?_
  rintro e w9 ⟨rfl,h9,t9⟩
  have H9:=hid h9;have T9:=hid (T8.out.trans t9);clear h9 t9
  go_wp2_with fail
  go_loopw [73,6] (fun i _ wr=>∃ j:Nat,j≤4∧i=ν j∧WrP wr g B pk P na P.N.length nc ((([31,32,33,34].take j).map P.I).foldl (AD 1) m9)∧(([31,32,33,34].take j).map P.I).length≤4∧Turns (fun x=>x=g∨x=pk∨B≤x) w wr) (fun i _ _=>4-(intOf i).toNat)
  case atStart=>exact ⟨0,Nat.zero_le _,rfl,H9.out,by simp,T9.out⟩
  case round=>
    obtain ⟨j,hj,rfl,hm',hl4,ht⟩:=hrel
    by_cases hlt:j<4
    · have d0:decide ((j:Int)<4)=true:=decide_eq_true ω
      have hlen:=CH 1 (([31,32,33,34].take j).map P.I) m9
      have hnum:DT (31+j)=true:=by rcases (ω:j=0∨j=1∨j=2∨j=3) with e | e | e | e<;>subst e<;>rfl
      have hstep:AD 1 ((([31,32,33,34].take j).map P.I).foldl (AD 1) m9) (P.I (31+j))=(([31,32,33,34].take (j+1)).map P.I).foldl (AD 1) m9:=by rcases (ω:j=0∨j=1∨j=2∨j=3) with e | e | e | e<;>subst e<;>rfl
      have hl5:(([31,32,33,34].take (j+1)).map P.I).length≤4:=by simp;omega
      have HZ:=hid (hm'.nums hP 1 (by decide) [31+j] (by intro o ho;rw [List.mem_singleton] at ho;rw [ho];exact hnum) (by simp) ω _ hstep)
      have HT:=hid ht;have HL5:=hid hl5
      clear hm' ht hlen hnum hstep hl4 hl5
      go_wp2_with fail
      refine HZ.out.mono ?_
      rintro e w10 ⟨rfl,h10,t10⟩
      have H10:=hid h10;have T10:=hid (HT.out.trans t10)
      clear h10 t10
      go_wp2_with fail
      go_roundw
      case rel=>exact ⟨j+1,ω,by go_num,H10.out,HL5.out,T10.out⟩
      case measure=>simp [intOf];omega
    · obtain rfl:j=4:=ω
      have hlen:=CH 1 (([31,32,33,34].take 4).map P.I) m9
      have HM:=hid hm';have HT:=hid ht
      have hr9:Row wr 1 na P.N.length nc (P.N.map AS):=ht.row HR.out (fun hn b hb q=>by have:=HRB.out hn b hb;omega)
      have HRR:=hid hr9
      have hm10:((([31,32,33,34].take 4).map P.I).foldl (AD 1) m9).b.length≤2000:=ω
      clear hm' ht hr9 hlen
      have hE:(([31,32,33,34].map P.I).foldl (AD 1) m9)=((([31,32,33,34].take 4).map P.I).foldl (AD 1) m9):=rfl
      have HEE:=hid hE
      clear hE
      go_wp2_with fail
      refine (Qm HM.out hN hn9 HRR.out (fun hn b hb=>by have:=HRB.out hn b hb;exact ⟨this.1,this.2.2⟩) hm10).mono ?_
      rintro e w11 ⟨rfl,h11,t11⟩
      have H11:=hid h11;have T11:=hid (HT.out.trans (t11.mono (fun _ q=>q.elim .inl (fun e=>.inr (.inr e)))))
      clear h11 t11
      go_wp2_with fail
      go_end0
      exact ⟨rfl,H11.out,T11.out⟩
end
section
def Fo (k:Int):Option FuncId:=if k=1 then some 91 else if k=2 then some 92 else if k=3 then some 93 else if k=4 then some 94 else if k=5 then some 95 else none
def FQ (g:Nat) (k:Int):Value:=match Fo k with
  | some f=>.func (.func f) #[.pointer (some ⟨g,0,none⟩)] #[]
  | none=>.nilFunc
theorem EH (g:Nat) (k:Int) (w:World):Calls Tryz.prog 69 #[π g,ν k] w fun e w'=>e=.returned (FQ g k)∧w=w':=by
  have hmf:∀ (fn:Fn) (first cap:Array Value) (w:World),(Instr.makeFunc fn first cap).run Tryz.prog w=.ok (.func fn first cap) w:=fun _ _ _ _=>rfl
  rcases (ω:k=1∨k=2∨k=3∨k=4∨k=5∨(k≠1∧k≠2∧k≠3∧k≠4∧k≠5)) with rfl | rfl | rfl | rfl | rfl | ⟨n1,n2,n3,n4,n5⟩
  case inr.inr.inr.inr.inr=>
    have e:FQ g k=.nilFunc:=by unfold FQ Fo;simp [n1,n2,n3,n4,n5]
    rw [e]
    have p1:(k == 1)=false:=by simpa using n1
    have p2:(k == 2)=false:=by simpa using n2
    have p3:(k == 3)=false:=by simpa using n3
    have p4:(k == 4)=false:=by simpa using n4
    have p5:(k == 5)=false:=by simpa using n5
    clear n1 n2 n3 n4 n5 e
    go_enter Tryz.func69,Tryz.ntmps69
    go_wp2_with fail
    go_ret
    exact ⟨rfl,rfl⟩
  all_goals
    go_enter Tryz.func69,Tryz.ntmps69
    go_wp2_with fail
    go_ret
    exact ⟨rfl,rfl⟩
end
section
def Mf (v:Int):Bool:=decide (1≤v)&&decide (v≤8)
def My (m:WM) (P:PkM):WM:=Ef (AD 8 (AD 4 ([P.I 0,P.I 1].foldl (AD 1) m) (P.I 2)) (P.I 3)) (Mf (P.I 1))
def EA (m:WM) (P:PkM):WM:=if P.I 0=1 then RA m P else if P.I 0=2 then NR m P else if P.I 0=3 then Rn m P else if P.I 0=4 then NC m P else if P.I 0=5 then AD 1 m (P.I 18) else ⟨m.b,true⟩
theorem SS (m:WM) (P:PkM) (hS:shortP P):(RA m P).b.length≤m.b.length+300:=by
  unfold RA
  have h1:=AY (k:=1) (by decide) m (P.I 4)
  rw [← Lb (AD 1 m (P.I 4)) (Nn (P.I 4))] at h1
  generalize Ef (AD 1 m (P.I 4)) (Nn (P.I 4))=m1 at *
  have h2:=AY (k:=4) (by decide) m1 (P.I 5)
  generalize AD 4 m1 (P.I 5)=m2 at *
  have h3:=AY (k:=2) (by decide) m2 (P.I 6)
  generalize AD 2 m2 (P.I 6)=m3 at *
  have h4:=Es (k:=2) (most:=128) (by decide) m3 (P.S 7) (hS 7 (by decide))
  generalize Cu 2 128 m3 (P.S 7)=m4 at *
  have h5:=CH 8 [P.I 8,P.I 9] m4
  simp only [List.length_cons,List.length_nil] at h5
  omega
theorem WrP.chk {w:World} {g B pk:Nat} {P:PkM} {na:Option Addr} {nn nc:Nat} {m:WM} (h:WrP w g B pk P na nn nc m) (ok:Bool):Calls Tryz.prog 68 #[π g,.bool ok] w fun e w'=>e=.returned (.tuple #[])∧WrP w' g B pk P na nn nc (Ef m ok)∧Turns (fun x=>x=g∨x=pk∨B≤x) w w':=by
  refine (CoP.chk h.1 ok).mono ?_
  rintro e w' ⟨rfl,h1,t1⟩
  exact ⟨rfl,h.of h1 (t1.mono (fun _ q=>.inl q)) h.2.2.2.2,t1.mono (fun _ q=>.inl q)⟩
structure PutOk (w:World) (g B pk:Nat) (P:PkM) (na:Option Addr) (nc:Nat):Prop where
  hP:Be P
  hS:shortP P
  hN:∀ s∈P.N,s.length≤1100000
  hn9:P.N.length≤1100000
  hr:Row w 1 na P.N.length nc (P.N.map AS)
  hrb:0<P.N.length→∀ b,(∃ off,na=some ⟨b,off,none⟩)→b≠g∧b≠pk∧b<B
theorem PutOk.turns {w w':World} {g B pk:Nat} {P:PkM} {na:Option Addr} {nc:Nat} (h:PutOk w g B pk P na nc) (t:Turns (fun x=>x=g∨x=pk∨B≤x) w w'):PutOk w' g B pk P na nc:=
  ⟨h.hP,h.hS,h.hN,h.hn9,t.row h.hr (fun hn b hb q=>by have:=h.hrb hn b hb;omega),h.hrb⟩
def Ez (m:WM) (P:PkM):WM:=EA (My m P) P
theorem Hn {w:World} {g B pk:Nat} {P:PkM} {na:Option Addr} {nc:Nat} {m:WM} (h:WrP w g B pk P na P.N.length nc m) (o:PutOk w g B pk P na nc) (hm:m.b.length≤1000) (f:FuncId) (hf:Fo (P.I 0)=some f) :
    Calls Tryz.prog f #[π g,π pk] w fun e w'=>e=.returned (.tuple #[])∧WrP w' g B pk P na P.N.length nc (EA m P)∧Turns (fun x=>x=g∨x=pk∨B≤x) w w':=by
  unfold Fo at hf
  unfold EA
  by_cases k1:P.I 0=1
  · rw [if_pos k1] at hf ⊢
    cases hf
    refine (NQ h o.hP o.hS hm).mono ?_
    rintro e w' ⟨rfl,h1,t1⟩
    exact ⟨rfl,h.of h1 t1 (by have:=SS m P o.hS;omega),t1.mono (fun _ q=>q.elim .inl (fun e=>.inr (.inr e)))⟩
  rw [if_neg k1] at hf ⊢
  by_cases k2:P.I 0=2
  · rw [if_pos k2] at hf ⊢
    cases hf
    exact Mi h o.hP o.hS hm
  rw [if_neg k2] at hf ⊢
  by_cases k3:P.I 0=3
  · rw [if_pos k3] at hf ⊢
    cases hf
    exact Pg h o.hP o.hS hm
  rw [if_neg k3] at hf ⊢
  by_cases k4:P.I 0=4
  · rw [if_pos k4] at hf ⊢
    cases hf
    exact NB h o.hP o.hS o.hN o.hn9 o.hr o.hrb hm
  rw [if_neg k4] at hf ⊢
  by_cases k5:P.I 0=5
  · rw [if_pos k5] at hf ⊢
    cases hf
    refine (OY h.1 h.2.1 h.2.2.1 o.hP ω).mono ?_
    rintro e w' ⟨rfl,h1,t1⟩
    exact ⟨rfl,h.of h1 (t1.mono (fun _ q=>.inl q)) (by have:=AY (k:=1) (by decide) m (P.I 18);omega),t1.mono (fun _ q=>.inl q)⟩
  · rw [if_neg k5] at hf;cases hf
end
section
def It (P:PkM) (o:Option (List UInt8)) (f:Fld):Option (List UInt8):=o.bind fun b=>(Fy P f).map fun a=>b++a
theorem NV (P:PkM) (fs:List Fld):fs.foldl (It P) none=none:=by
  induction fs with
  | nil=>rfl
  | cons f fs ih=>exact ih
theorem NW (P:PkM) (fs:List Fld) (b:List UInt8):fs.foldl (It P) (some b)=(encL P fs).map fun a=>b++a:=by
  induction fs generalizing b with
  | nil=>simp [encL]
  | cons f fs ih=>
    show fs.foldl (It P) ((Fy P f).map fun a=>b++a)=_
    unfold encL
    cases Fy P f with
    | none=>rw [Option.map_none,NV];rfl
    | some a=>rw [Option.map_some,ih,Option.bind_some];cases encL P fs<;>simp
def AgP (m:WM) (c:Bool) (o:Option (List UInt8)):Prop:=if m.no=false∧c=true then o=some m.b else o=none
theorem AgP.no {m:WM} {c:Bool} {o:Option (List UInt8)} (h:AgP m c o) (hn:¬ (m.no=false∧c=true)):o=none:=by unfold AgP at h;rwa [if_neg hn] at h
theorem AgP.yes {m:WM} {c:Bool} {o:Option (List UInt8)} (h:AgP m c o) (h1:m.no=false) (h2:c=true):o=some m.b:=by unfold AgP at h;rwa [if_pos ⟨h1,h2⟩] at h
theorem AgP.mkNo {m:WM} {c:Bool} {o:Option (List UInt8)} (hn:¬ (m.no=false∧c=true)) (h:o=none):AgP m c o:=by unfold AgP;rw [if_neg hn];exact h
theorem AgP.mkYes {m:WM} {c:Bool} {o:Option (List UInt8)} (h1:m.no=false) (h2:c=true) (h:o=some m.b):AgP m c o:=by unfold AgP;rw [if_pos ⟨h1,h2⟩];exact h
theorem KO {k:Nat} {m:WM} {v:Int} (h:m.no=true):AD k m v=m:=if_pos h
theorem Jv {k:Nat} {m:WM} {v:Int} (h:m.no=false):AD k m v=⟨DK m.b v k,!AX v k⟩:=if_neg (by simp [h])
def okB (lo hi v:Int):Bool:=decide (lo≤v)&&decide (v≤hi)
theorem Ey {lo hi v:Int}:okB lo hi v=true↔lo≤v∧v≤hi:=by simp [okB]
theorem AgP.num {m:WM} {c:Bool} {o:Option (List UInt8)} {P:PkM} (h:AgP m c o) (k o':Nat) (lo hi:Int):AgP (AD k m (P.I o')) (c&&okB lo hi (P.I o')) (It P o (.num k o' lo hi)):=by
  by_cases hn:m.no=false∧c=true
  · have e:=h.yes hn.1 hn.2
    obtain ⟨h1,h2⟩:=hn
    subst h2
    rw [e]
    show AgP _ _ ((Em k lo hi (P.I o')).map fun a=>m.b++a)
    rw [Jv h1]
    generalize P.I o'=v at *
    unfold Em
    cases hf:AX v k with
    | false=>
      refine AgP.mkNo (by simp) ?_
      rw [if_neg (by simp)];rfl
    | true=>
      by_cases hb:lo≤v∧v≤hi
      · rw [if_pos ⟨rfl,hb⟩]
        refine AgP.mkYes rfl (by rw [Bool.true_and];exact Ey.2 hb) ?_
        simp [DK,hf]
      · rw [if_neg (fun q=>hb q.2)]
        exact AgP.mkNo (fun q=>hb (Ey.1 (by simpa using q.2))) rfl
  · rw [h.no hn]
    refine AgP.mkNo (fun q=>hn ?_) rfl
    cases hm:m.no with
    | true=>rw [KO hm,hm] at q;exact absurd q.1 (by simp)
    | false=>refine ⟨rfl,?_⟩;have:=q.2;simp at this;exact this.1
theorem AgP.num0 {m:WM} {c:Bool} {o:Option (List UInt8)} {P:PkM} (h:AgP m c o) (hP:Be P) (k o':Nat):AgP (AD k m (P.I o')) c (It P o (.num k o' 0 BJ)):=by
  have h1:=h.num (P:=P) k o' 0 BJ
  by_cases hb:okB 0 BJ (P.I o')=true
  · rwa [hb,Bool.and_true] at h1
  · have e:=h1.no (fun q=>hb (by have:=q.2;simp at this;exact this.2))
    refine AgP.mkNo (fun q=>hb ?_) e
    cases hm:m.no with
    | true=>rw [KO hm,hm] at q;exact absurd q.1 (by simp)
    | false=>
      rw [Jv hm] at q
      have hf:AX (P.I o') k=true:=by simpa using q.1
      have:=Ra hf (hP o')
      exact Ey.2 ⟨this.2.1,hP o'⟩
theorem AgP.chk {m:WM} {c ok:Bool} {o:Option (List UInt8)} (h:AgP m (c&&ok) o):AgP (Ef m ok) c o:=by
  cases ok with
  | true=>rw [Bool.and_true] at h;unfold Ef;simpa using h
  | false=>exact AgP.mkNo (by simp [Ef]) (h.no (by simp))
theorem AgP.textE {m:WM} {c:Bool} {o:Option (List UInt8)} (h:AgP m c o) (k most:Nat) (s:List UInt8) (hk:BD k=true) (hm:most<256 ^ k):AgP (Cu k most m s) c (o.bind fun b=>(Fb k most s).map fun a=>b++a):=by
  by_cases hn:m.no=false∧c=true
  · rw [h.yes hn.1 hn.2,Option.bind_some]
    unfold Cu Fb
    rw [Jv hn.1]
    by_cases hl:s.length≤most
    · have hf:AX (s.length:Int) k=true:=KJ hk (Nat.lt_of_le_of_lt hl hm)
      rw [if_pos hl,if_neg (by simp [hf];omega)]
      refine AgP.mkYes rfl hn.2 ?_
      simp [DK,hf]
    · rw [if_neg hl,if_pos (Or.inr ω)]
      exact AgP.mkNo (by simp) rfl
  · rw [h.no hn]
    refine AgP.mkNo (fun q=>hn ⟨?_,q.2⟩) rfl
    cases hm':m.no with
    | false=>rfl
    | true=>
      unfold Cu at q
      rw [KO hm',if_pos (Or.inl hm')] at q
      exact absurd q.1 (by simp)
theorem AgP.text {m:WM} {c:Bool} {o:Option (List UInt8)} {P:PkM} (h:AgP m c o) (k most o':Nat) (hk:BD k=true) (hm:most<256 ^ k):AgP (Cu k most m (P.S o')) c (It P o (.text k most o')):=h.textE k most (P.S o') hk hm
theorem JQ (N:List (List UInt8)):N.foldl (fun (o:Option (List UInt8)) s=>o.bind fun b=>(Fb 1 12 s).map fun a=>b++a) none=none:=by
  induction N with
  | nil=>rfl
  | cons s N ih=>exact ih
theorem Mj (N:List (List UInt8)) (b:List UInt8):N.foldl (fun (o:Option (List UInt8)) s=>o.bind fun b=>(Fb 1 12 s).map fun a=>b++a) (some b)=(Ej N).map fun a=>b++a:=by
  induction N generalizing b with
  | nil=>simp [Ej]
  | cons s N ih=>
    show N.foldl _ ((Fb 1 12 s).map fun a=>b++a)=_
    unfold Ej
    cases Fb 1 12 s with
    | none=>rw [Option.map_none,JQ];rfl
    | some a=>rw [Option.map_some,ih,Option.bind_some];cases Ej N<;>simp
theorem AgP.foldT {m:WM} {c:Bool} {o:Option (List UInt8)} (h:AgP m c o) (N:List (List UInt8)):AgP (N.foldl (Cu 1 12) m) c (N.foldl (fun (o:Option (List UInt8)) s=>o.bind fun b=>(Fb 1 12 s).map fun a=>b++a) o):=by
  induction N generalizing m o with
  | nil=>exact h
  | cons s N ih=>exact ih (h.textE 1 12 s rfl (by decide))
theorem AgP.names {m:WM} {o:Option (List UInt8)} {P:PkM} (h:AgP m true o):AgP (Lx m P.N) true (It P o .names):=by
  unfold Lx
  by_cases hm:m.no=false
  · have e:=h.yes hm rfl
    rw [e]
    show AgP _ _ ((Fy P .names).map fun a=>m.b++a)
    unfold Fy
    by_cases hl:P.N.length≤16
    · have hf:AX (P.N.length:Int) 1=true:=KJ (w:=1) rfl ω
      have e1:Ef (AD 1 m P.N.length) (decide (P.N.length≤16))=⟨m.b++le 1 P.N.length,false⟩:=by
        rw [Jv hm,decide_eq_true hl]
        unfold Ef
        simp [hf,DK]
      rw [e1,if_neg (by simp),if_pos hl]
      have h2:AgP ⟨m.b++le 1 P.N.length,false⟩ true (some (m.b++le 1 P.N.length)):=AgP.mkYes rfl rfl rfl
      have h3:=h2.foldT P.N
      rw [Mj] at h3
      cases he:Ej P.N with
      | none=>rw [he] at h3;exact h3
      | some t=>rw [he] at h3;simpa using h3
    · rw [if_neg hl]
      have e1:(Ef (AD 1 m P.N.length) (decide (P.N.length≤16))).no=true:=by rw [decide_eq_false hl];simp [Ef]
      rw [if_pos e1]
      exact AgP.mkNo (by rw [e1];simp) rfl
  · have hm':m.no=true:=by simpa using hm
    rw [h.no (fun q=>hm q.1)]
    refine AgP.mkNo (fun q=>?_) rfl
    rw [KO hm'] at q
    have e1:(Ef m (decide (P.N.length≤16))).no=true:=by simp [Ef,hm']
    rw [if_pos e1,e1] at q
    exact absurd q.1 (by simp)
theorem Vc (P:PkM) (hP:Be P):AgP (My ⟨[],false⟩ P) (okB 1 5 (P.I 0)) (Ah.foldl (It P) (some [])):=by
  have h0:AgP ⟨[],false⟩ true (some []):=AgP.mkYes rfl rfl rfl
  have h1:=h0.num (P:=P) 1 0 1 5
  have h2:=h1.num (P:=P) 1 1 1 8
  have h3:=h2.num0 hP 4 2
  have h4:=h3.num0 hP 8 3
  rw [Bool.true_and] at h4
  exact AgP.chk (ok:=okB 1 8 (P.I 1)) h4
theorem UM {m:WM} {o:Option (List UInt8)} (P:PkM) (hP:Be P) (h:AgP m true o) (hk:okB 1 5 (P.I 0)=true):AgP (EA m P) true ((Al (P.I 0)).foldl (It P) o):=by
  have hk':=Ey.1 hk
  rcases (ω:P.I 0=1∨P.I 0=2∨P.I 0=3∨P.I 0=4∨P.I 0=5) with e | e | e | e | e
  · have e1:EA m P=RA m P:=if_pos e
    rw [e1,e]
    have h1:AgP (Ef (AD 1 m (P.I 4)) (Nn (P.I 4))) true (It P o (.num 1 4 1 4)):=AgP.chk (ok:=okB 1 4 (P.I 4)) (h.num 1 4 1 4)
    exact ((((h1.num0 hP 4 5).num0 hP 2 6).text 2 128 7 rfl (by decide)).num0 hP 8 8).num0 hP 8 9
  · have e1:EA m P=NR m P:=by unfold EA;rw [e];rfl
    rw [e1,e]
    have h1:AgP (Ef (AD 1 m (P.I 4)) (Nn (P.I 4))) true (It P o (.num 1 4 1 4)):=AgP.chk (ok:=okB 1 4 (P.I 4)) (h.num 1 4 1 4)
    exact ((h1.num0 hP 1 19).text 2 128 7 rfl (by decide)).num0 hP 8 8
  · have e1:EA m P=Rn m P:=by unfold EA;rw [e];rfl
    rw [e1,e]
    exact (((((h.num0 hP 1 4).num0 hP 1 18).text 1 100 11 rfl (by decide)).text 1 100 12 rfl (by decide)).num0 hP 1 13).num0 hP 4 16
  · have e1:EA m P=NC m P:=by unfold EA;rw [e];rfl
    rw [e1,e]
    exact (((((((((((((((h.num0 hP 1 4).num0 hP 1 19).num0 hP 1 18).num0 hP 8 27).num0 hP 4 5).num0 hP 1 24).num0 hP 1 25).num0 hP 2 26).num0 hP 1 28).num0 hP 1 29).num0 hP 2 30).num0 hP 1 31).num0 hP 1 32).num0 hP 1 33).num0 hP 1 34).names
  · have e1:EA m P=AD 1 m (P.I 18):=by unfold EA;rw [e];rfl
    rw [e1,e]
    exact h.num0 hP 1 18
def Fz (P:PkM):Option (List UInt8):=encL P (Ah++Al (P.I 0))
theorem Tr (P:PkM):Fz P=(Al (P.I 0)).foldl (It P) (Ah.foldl (It P) (some [])):=by
  have:=NW P (Ah++Al (P.I 0)) []
  rw [List.foldl_append] at this
  rw [this]
  unfold Fz
  cases encL P (Ah++Al (P.I 0))<;>simp
theorem OK (P:PkM) (hP:Be P):((Ez ⟨[],false⟩ P).no=false→Fz P=some (Ez ⟨[],false⟩ P).b)∧((Ez ⟨[],false⟩ P).no=true→Fz P=none):=by
  have h1:=Vc P hP
  rw [Tr]
  unfold Ez
  cases hk:okB 1 5 (P.I 0) with
  | true=>
    rw [hk] at h1
    have h2:=UM P hP h1 hk
    exact ⟨fun q=>h2.yes q rfl,fun q=>h2.no (by rw [q];simp)⟩
  | false=>
    rw [hk] at h1
    rw [h1.no (by simp),NV]
    refine ⟨fun q=>?_,fun _=>rfl⟩
    have hk':¬ (1≤P.I 0∧P.I 0≤5):=fun q=>by rw [Ey.2 q] at hk;cases hk
    have e1:EA (My ⟨[],false⟩ P) P=⟨(My ⟨[],false⟩ P).b,true⟩:=by
      unfold EA
      rw [if_neg ω,if_neg ω,if_neg ω,if_neg ω,if_neg ω]
    rw [e1] at q;cases q
end
end Go.Proofs.YtjgajoljgepioaaGreat
