/- Parts of the proof. -/
import Derived.Lib.SlBytesConst
import Derived.Laws.StructEq
import Derived.Test.YtbfgjinpchbajaaGreatDoorQag
namespace Go.Proofs.YtbfgjinpchbajaaGreatDoor
open Go.RowKit
set_option linter.unusedSimpArgs false
set_option linter.unusedVariables false
set_option linter.unusedSectionVars false
set_option maxRecDepth 100000
set_option maxHeartbeats 8000000
section
theorem PI {w:World} {g off:Nat} {u:Value} (h:w.cell? ⟨g,off,none⟩=some u) (hz:w.frozen? ⟨g,off,none⟩=false) (a:Option Addr) (n c:Nat):(Instr.storeAt 68 (.pointer (some ⟨g,off,none⟩)) (.slice a n c)).run Tryz.prog w=.ok () (w.setCell ⟨g,off,none⟩ (.slice a n c)):=by
  have u3:=υ68
  have a3:=Tryz.isAgg68
  have z3:=Tryz.sizeOf68
  go_simp
def obA (a:Option Addr):Option Nat:=a.map (·.block)
theorem Fi (a:Option Addr) (n c:Nat):(Value.slice a n c).ownBlock=obA a:=by cases a<;>rfl
def Kq (w:World) (a a':Option Addr):Prop:=obA a'=obA a∨∃ k,obA a'=some k∧w.heap.size≤k
theorem Nv {w ws:World} {a a':Option Addr} (h:Kq ws a a') (hl:w.heap.size≤ws.heap.size):Kq w a a':=h.imp id fun ⟨k,h1,h2⟩=>⟨k,h1,Nat.le_trans hl h2⟩
theorem YY {w:World} {B:Nat} {e:TypeId} {sz:Nat} {a:Option Addr} {n c:Nat} {cs:List Value} (h:Own w B e sz a n c cs):∀ k,obA a=some k→B≤k:=fun k hk=>(World.ownsRow.lt h k (by rw [Fi];exact hk)).1
theorem ON {w:World} {B:Nat} {t ty e:TypeId} {i:TypeInfo} {z:Value} {size bytes:Nat} (ht:Tryz.prog.underlying t=some (.slice e)) (hi:Tryz.prog.info? e=some i) (hz:i.zero=some z) (hsize:i.size=size) (hby:i.bytes=bytes) (hsz:0<size)
    {a1:Option Addr} {n c0:Nat} {xs:List Value} (hown:Own w B e size a1 n c0 xs) {a:Addr} {m c:Nat} {news:List Value} (hl:news.length=m*size) (hnews:∀ j u,news[j]? = some u→w.cell? (a.add j)=some u) (h1:∀ u∈news,u.oneCell'=true)
    (h63:n+m≤maxLen) (hbytes:(n+m)*bytes≤140737488355328) (hm:0<m) {b:Option Addr} {n' c':Nat} {w':World} (hr:(Builtin.append_ #[t,t] ty #[.slice a1 n c0,.slice (some a) m c]).run Tryz.prog w=.ok (.slice b n' c') w'):Kq w a1 b:=by
  subst hsize
  subst hby
  have hsmall:n+m≤9223372036854775807:=by simp only [maxLen] at h63;omega
  rcases hown.2 with ⟨hv,hn⟩ | ⟨g,cap,cur,hv,hbg,hg,hnc,hcm,hcs,htake⟩
  · cases hv
    have q:=run_append_nil (P:=Tryz.prog) w t ty e i z ht hi hz a m c news hl hnews ω ω (by have hb:=hbytes;simp only [Nat.zero_add] at hb;omega)
    rw [q] at hr
    cases hr
    exact .inr ⟨_,rfl,Nat.le_refl _⟩
  · cases hv
    by_cases hroom:n+m≤c0
    · have hfit:n*i.size+news.length≤cur.size:=by rw [hl,hcs,← Nat.add_mul];exact Nat.mul_le_mul_right _ hroom
      have q:=run_append_room (P:=Tryz.prog) w t ty e i ht hi g n c0 cur hg a m c news hl hnews h1 hroom hfit
      rw [q] at hr
      cases hr
      exact .inl rfl
    · have holds:∀ j u,xs[j]? = some u→w.cell? ((⟨g,0,none⟩:Addr).add j)=some u:=World.ownsRow.cells hown (g:=g) rfl
      have q:=run_append_grow (P:=Tryz.prog) w t ty e i z ht hi hz ⟨g,0,none⟩ n c0 xs hown.1 holds a m c news hl hnews ω ω (growslice_fits ω hbytes)
      rw [q] at hr
      cases hr
      exact .inr ⟨_,rfl,Nat.le_refl _⟩
section
variable {ops:Array Oper} {Q:Exit→Act→World→Prop} {oi:Oper} {a:Act} {w:World} {N:Nat} {l:List (Nat×Value)} {K:Act→World→Prop}
theorem Ji (h:Kn N l a) {d:Nat} (hd:oi.dst=some d) (hdN:d<N) (hf:∀ x∈l,x.1≠d) (s x:Operand) {t e:TypeId} {sz bytes:Nat}
    (ho:oi.op=.call { callee:=.builtin .append,args:=#[s,x],argTypes:=#[t,t] }) (E:ElemT Tryz.prog t e sz bytes) (B:Nat)
    {a1:Option Addr} {ad:Addr} {n c m c2:Nat} {cs ds:List Value} (hs:a.eval s=.slice a1 n c) (hx:a.eval x=.slice (some ad) (m+1) c2)
    (hown:Own w B e sz a1 n c cs) (hrow:Row w sz (some ad) (m+1) c2 ds) (h1:∀ u∈ds,u.oneCell'=true)
    (hbytes:(n+(m+1))*bytes≤140737488355328) (h63:n+(m+1)≤9223372036854775807) (hbase:B≤w.heap.size)
    (k:∀ a' b' c' w',Own w' B e sz b' (n+(m+1)) c' (cs++ds)→w.grownBy w' (Value.slice a1 n c).ownBlock→Below B w w'→Kq w a1 b'→Kn N ((d,.slice b' (n+(m+1)) c')::l) a'→K a' w'):Oper.wp Tryz.prog oi a w K Q:=by
  have hlt:∀ k,(Value.slice a1 n c).ownBlock=some k→B≤k:=fun k hk=>(World.ownsRow.lt hown k hk).1
  obtain ⟨under,⟨ti,z,hi',hz,hsize,hby,hzs⟩,hsz⟩:=E
  obtain ⟨g1,g2,g3,g4,g5⟩:=hrow
  have hnews:∀ j u,ds[j]? = some u→w.cell? (ad.add j)=some u:=by
    intro j u hu
    obtain ⟨b,off,e1,_,hc⟩:=g5 ω
    cases e1
    have:=hc j u hu
    unfold Addr.add
    split
    · subst j;simpa using this
    · exact this
  have hm63:n+(m+1)≤maxLen:=by unfold maxLen;omega
  obtain ⟨v',w',hr,r1,r2,_⟩:=run_append_own (P:=Tryz.prog) w B t oi.type e ti z sz bytes under hi' hz hsize hby hzs hsz (.slice a1 n c) n cs hown ad (m+1) c2 ds g1 hnews h1 hm63 hbytes hbase
  obtain ⟨b,c',rfl,h5⟩:=EF r1
  have hw:=ON under hi' hz hsize hby hsz hown g1 hnews h1 hm63 hbytes (Nat.succ_pos m) hr
  have hrun:(execOp a.eval oi).run Tryz.prog w=.ok (.value (.slice b (n+(m+1)) c')) w':=by
    unfold execOp
    simp only [ho,resolve,invoke,builtin,Sem.run_bind,Sem.run_pure,Result.andThen_ok,List.map_toArray,List.map_cons,List.map_nil,hs,hx,hr]
  unfold Oper.wp
  rw [hrun,Oper.upon_value,hd]
  exact k _ b c' w' h5 r2 ((Below.refl B w).grown r2 hbase (fun k hk=>hlt k hk)) hw (h.put hdN hf _)
end
theorem Ahg (x y:Operand) (v u:Int) (w:World) {b:Bool} (h:decide (u≤v)=b):(do eqGuard .geq 3 x y (ν v) (ν u);binOp .geq 3 (ν v) (ν u):Sem Value).run Tryz.prog w=.ok (.bool b) w:=by
  have u3:=υ3
  have a3:=Tryz.isAgg3
  have z3:=Tryz.sizeOf3
  go_simp
theorem Po {w:World} {g off:Nat} {q:Option Addr} (h:w.cell? ⟨g,off,none⟩=some (.pointer q)):(Instr.loadAt 61 (.pointer (some ⟨g,off,none⟩))).run Tryz.prog w=.ok (.pointer q) w:=by
  have u3:=υ61
  have a3:=Tryz.isAgg61
  have z3:=Tryz.sizeOf61
  go_simp
theorem Xw (args:Array Value) (w:World):(callFunc 45 args).run Tryz.prog w=.ok (.enter 45 args) w:=by
  have h:=Tryz.func45
  go_simp
theorem Ja (g:Nat) (w:World):(Instr.fieldAt 70 (π g) 0).run Tryz.prog w=.ok (π g) w:=rfl
theorem Cu (g:Nat) (w:World):(Instr.fieldAt 70 (π g) 2).run Tryz.prog w=.ok (.pointer (some ⟨g,2,none⟩)) w:=rfl
def Agx (w:World) (tg g lg B:Nat) (M:MemM) (P:List PtM) (at_:Int) (xs:List UInt8) (e:Ending) (w':World):Prop:=
  e=.returned (ν (ND M P at_ xs.length))∧∃ ta tc,Blk w' tg 70 (txC g lg ta (Lw M P at_ xs).length tc)∧BG w' B ta tc (Lw M P at_ xs)∧Turns (fun k=>k=tg∨B≤k) w w'
def Ly (w:World) (tg g lg B:Nat) (ta0:Option Addr) (M:MemM) (P:List PtM) (at_:Int) (xs:List UInt8) (e:Ending) (w':World):Prop:=
  e=.returned (ν (ND M P at_ xs.length))∧∃ ta tc,Blk w' tg 70 (txC g lg ta (Lw M P at_ xs).length tc)∧BG w' B ta tc (Lw M P at_ xs)∧Turns (fun k=>k=tg∨some k=obA ta0) w w'∧Kq w ta0 ta
theorem TP {w:World} {tg g lg B tc:Nat} {ta:Option Addr} {M:MemM} {P:List PtM} {at_:Int} {xs:List UInt8} (h:okT M P at_ xs.length=false) (b:Blk w tg 70 (txC g lg ta P.length tc)) (o:BG w B ta tc P):Ly w tg g lg B ta M P at_ xs (.returned (ν 1)) w:=by
  unfold Ly ND Lw
  rw [h]
  exact ⟨rfl,ta,tc,b,o,Turns.refl _ w,.inl rfl⟩
theorem WM {w:World} {tg g lg v d p tc B:Nat} {ta:Option Addr} {M:MemM} {P:List PtM} (hm:MemP w g v d p M) (hb:Blk w tg 70 (txC g lg ta P.length tc)) (ho:BG w B ta tc P) (hB:B≤w.heap.size) (htg:tg<B) (hM:M.V.length≤1048576) {a:Option Addr} {c:Nat} {xs:List UInt8} (h0:Bp w a c xs) {at_:Int}
    (hl:xs.length≤256) (hP:P.length<64) (h3:0≤at_) (h4:at_+xs.length≤M.V.length) :
    Calls Tryz.prog 75 #[π tg,ν at_,.slice a xs.length c] w fun e w'=>e=.returned (ν 0)∧∃ ta2 tc2,Blk w' tg 70 (txC g lg ta2 (P++[(⟨at_,xs⟩:PtM)]).length tc2)∧BG w' B ta2 tc2 (P++[(⟨at_,xs⟩:PtM)])∧Turns (fun k=>k=tg∨some k=obA ta) w w'∧Kq w ta ta2:=by
  have HM:=hid hm;have HB:=hid hb;have HO:=hid ho
  have n1:=hid (show decide ((256:Int)<(xs.length:Int))=false from decide_eq_false ω)
  have n2:=hid (show decide ((64:Int)≤(P.length:Int))=false from decide_eq_false ω)
  have n3:=hid (show decide (at_<(0:Int))=false from decide_eq_false ω)
  have n4:=hid (show decide ((M.V.length:Int)-(xs.length:Int)<at_)=false from decide_eq_false ω)
  clear hm hb ho
  go_enter Tryz.func75,Tryz.ntmps75
  iterate 3 go_step
  refine AW (N:=45) (l:=[(0,π tg),(1,ν at_),(2,.slice a xs.length c)]) ⟨rfl,(by intro x hx;simp only [List.mem_cons,List.not_mem_nil,or_false] at hx;rcases hx with rfl | rfl | rfl<;>rfl),rfl⟩ fun a2 h1=>?_
  refine wv h1 rfl rfl rfl rfl (ν 0) rfl fun a4 h3=>?_
  iterate 6 go_step
  refine wmk h3 rfl rfl rfl rfl 2 rfl (fun _=>rfl) fun a6 h5=>?_
  refine wv h5 rfl rfl rfl rfl (ν (xs.length:Int)) (DO rfl (h5.ev 7 rfl) _) fun a8 h7=>?_
  refine wv h7 rfl rfl rfl rfl (.bool false) (by unfold execOp;simp only [h7.ev 8 rfl];exact Ac (FI _ _ _ _ _ n1.out)) fun a10 h9=>?_
  refine wmk h9 rfl rfl rfl rfl 9 rfl (fun _=>rfl) fun a12 h11=>?_
  refine Ak h11 (by rw [Ab (g:=3) (want:=false) (b:=false) rfl (h11.yields (prev:=10) rfl (by simp))];rfl) rfl (by decide) (fr rfl) (π tg) (by unfold execOp;simp only [h11.ev 0 rfl];rfl) fun a14 h13=>?_
  refine Ak h13 (by rw [Ab (g:=3) (want:=false) (b:=false) rfl (h13.yields (prev:=10) rfl (by simp))];rfl) rfl (by decide) (fr rfl) (π tg) (by unfold execOp;simp only [h13.ev 11 rfl];exact rfl) fun a16 h15=>?_
  refine Ak h15 (by rw [Ab (g:=3) (want:=false) (b:=false) rfl (h15.yields (prev:=10) rfl (by simp))];rfl) rfl (by decide) (fr rfl) (.pointer (some ⟨tg,2,none⟩)) (by unfold execOp;simp only [h15.ev 12 rfl];exact Ac (Cu (tg) _)) fun a18 h17=>?_
  refine Ak h17 (by rw [Ab (g:=3) (want:=false) (b:=false) rfl (h17.yields (prev:=10) rfl (by simp))];rfl) rfl (by decide) (fr rfl) (.slice ta P.length tc) (by unfold execOp;simp only [h17.ev 13 rfl];exact Ac (Du (HB.out.cell (i:=2) (by show 2<3;omega)))) fun a20 h19=>?_
  refine Ak h19 (by rw [Ab (g:=3) (want:=false) (b:=false) rfl (h19.yields (prev:=10) rfl (by simp))];rfl) rfl (by decide) (fr rfl) (ν (P.length:Int)) (Df rfl (h19.ev 14 rfl) _) fun a22 h21=>?_
  refine Ak h21 (by rw [Ab (g:=3) (want:=false) (b:=false) rfl (h21.yields (prev:=10) rfl (by simp))];rfl) rfl (by decide) (fr rfl) (.bool false) (by unfold execOp;simp only [h21.ev 15 rfl];exact Ac (Ahg _ _ _ _ _ n2.out)) fun a24 h23=>?_
  refine wv h23 rfl rfl rfl rfl (.bool false) (Bf rfl (h23.ev 10 rfl) (by rw [if_neg (by simp)];exact h23.ev 16 rfl)) fun a26 h25=>?_
  have h27:=h25.subs (l':=[(17,_),(6,_),(0,_),(1,_),(2,_)]) rfl
  clear h25
  iterate 3 go_step
  refine wp_cond (t:=false) (h27.ev 17 rfl) ?_
  simp only [Bool.false_eq_true,if_false]
  have h28:=h27.subs (l':=[(6,_),(0,_),(1,_),(2,_)]) rfl
  clear h27
  iterate 6 go_step
  refine wmk h28 rfl rfl rfl rfl 1 rfl (fun _=>rfl) fun a30 h29=>?_
  refine wv h29 rfl rfl rfl rfl (.bool false) (by unfold execOp;simp only [h29.ev 18 rfl];exact Ac (IL _ _ _ _ _ n3.out)) fun a32 h31=>?_
  refine wmk h31 rfl rfl rfl rfl 19 rfl (fun _=>rfl) fun a34 h33=>?_
  refine Ak h33 (by rw [Ab (g:=2) (want:=false) (b:=false) rfl (h33.yields (prev:=20) rfl (by simp))];rfl) rfl (by decide) (fr rfl) (ν at_) (by unfold execOp;simp only [h33.ev 1 rfl];rfl) fun a36 h35=>?_
  refine Ak h35 (by rw [Ab (g:=2) (want:=false) (b:=false) rfl (h35.yields (prev:=20) rfl (by simp))];rfl) rfl (by decide) (fr rfl) (π tg) (by unfold execOp;simp only [h35.ev 0 rfl];rfl) fun a38 h37=>?_
  refine Ak h37 (by rw [Ab (g:=2) (want:=false) (b:=false) rfl (h37.yields (prev:=20) rfl (by simp))];rfl) rfl (by decide) (fr rfl) (π tg) (by unfold execOp;simp only [h37.ev 22 rfl];exact rfl) fun a40 h39=>?_
  refine Ak h39 (by rw [Ab (g:=2) (want:=false) (b:=false) rfl (h39.yields (prev:=20) rfl (by simp))];rfl) rfl (by decide) (fr rfl) (π tg) (by unfold execOp;simp only [h39.ev 23 rfl];exact Ac (Ja (tg) _)) fun a42 h41=>?_
  refine Ak h41 (by rw [Ab (g:=2) (want:=false) (b:=false) rfl (h41.yields (prev:=20) rfl (by simp))];rfl) rfl (by decide) (fr rfl) (π g) (by unfold execOp;simp only [h41.ev 24 rfl];exact Ac (GJ (HB.out.cell (i:=0) (by show 0<3;omega)))) fun a44 h43=>?_
  refine AN h43 (by rw [Ab (g:=2) (want:=false) (b:=false) rfl (h43.yields (prev:=20) rfl (by simp))];rfl) rfl (by decide) (fr rfl) (fun args=>Xw args _) rfl #[π g] (by simp only [List.map_toArray,List.map_cons,List.map_nil,h43.ev 25 rfl]) (R:=fun v' w'=>v'=ν (M.V.length:Int)∧w=w') ((Kd HM.out).mono fun e w' q=>⟨_,q.1,rfl,q.2⟩) fun a46 v2 w2 r2 h45=>?_
  obtain ⟨rfl,rfl⟩:=r2
  refine Ak h45 (by rw [Ab (g:=2) (want:=false) (b:=false) rfl (h45.yields (prev:=20) rfl (by simp))];rfl) rfl (by decide) (fr rfl) (.slice a xs.length c) (by unfold execOp;simp only [h45.ev 2 rfl];rfl) fun a48 h47=>?_
  refine Ak h47 (by rw [Ab (g:=2) (want:=false) (b:=false) rfl (h47.yields (prev:=20) rfl (by simp))];rfl) rfl (by decide) (fr rfl) (ν (xs.length:Int)) (DO rfl (h47.ev 27 rfl) _) fun a50 h49=>?_
  refine Ak h49 (by rw [Ab (g:=2) (want:=false) (b:=false) rfl (h49.yields (prev:=20) rfl (by simp))];rfl) rfl (by decide) (fr rfl) (ν ((M.V.length:Int)-(xs.length:Int))) (by unfold execOp;simp only [h49.ev 26 rfl,h49.ev 28 rfl];exact Ac (EX _ _ _ _ _ rfl ω ω _)) fun a52 h51=>?_
  refine Ak h51 (by rw [Ab (g:=2) (want:=false) (b:=false) rfl (h51.yields (prev:=20) rfl (by simp))];rfl) rfl (by decide) (fr rfl) (.bool false) (by unfold execOp;simp only [h51.ev 21 rfl,h51.ev 29 rfl];exact Ac (FI _ _ _ _ _ n4.out)) fun a54 h53=>?_
  refine wv h53 rfl rfl rfl rfl (.bool false) (Bf rfl (h53.ev 20 rfl) (by rw [if_neg (by simp)];exact h53.ev 30 rfl)) fun a56 h55=>?_
  have h57:=h55.subs (l':=[(31,_),(6,_),(0,_),(1,_),(2,_)]) rfl
  clear h55
  iterate 3 go_step
  refine wp_cond (t:=false) (h57.ev 31 rfl) ?_
  simp only [Bool.false_eq_true,if_false]
  have h58:=h57.subs (l':=[(6,_),(0,_),(1,_),(2,_)]) rfl
  clear h57
  iterate 4 go_step
  have HBd:=hid (HB.out.mono (Below.refl _ _).drew);have HOd:Hid (BG w.drew B ta tc P):=hid (Own.mono HO.out (Below.refl _ _).drew);have hst:=GT (h0.mono (Below.refl _ _).drew)
  refine wp_region_held_drew (S:=fun _=>True) κ trivial (fun hS1=>?_)
  refine tkm hS1 h58 0 0 rfl rfl rfl rfl κ (fun _ _ _ _ h=>h) rfl (fun _=>rfl) rfl fun a60 h59=>?_
  refine tkm hS1 h59 1 0 rfl rfl rfl rfl κ (fun _ _ _ _ h=>h) rfl (fun _=>rfl) rfl fun a62 h61=>?_
  refine tkn hS1 h61 2 33 rfl rfl rfl rfl κ (fun _ _ _ _ h=>h) rfl rfl rfl fun a64 h63=>?_
  refine tkf hS1 h63 3 34 rfl rfl rfl rfl κ (fun _ _ _ _ h=>h) rfl rfl rfl (fun w=>Cu _ w) fun a66 h65=>?_
  refine tkm hS1 h65 5 1 rfl rfl rfl rfl κ (fun _ _ _ _ h=>h) rfl (fun _=>rfl) rfl fun a68 h67=>?_
  refine tkm hS1 h67 6 2 rfl rfl rfl rfl κ (fun _ _ _ _ h=>h) rfl (fun _=>rfl) rfl fun a70 h69=>?_
  refine Vc 4 7 rfl rfl rfl rfl κ (fun KK hK=>Ds (w':=w.drew) h69 rfl (by decide) (fr rfl) (.slice ta P.length tc) (by show (execOp _ (⟨_,.load 68 (.tmp 35),_,_,_,_⟩:Oper)).run _ _=_;exact (by unfold execOp;simp only [h69.ev 35 rfl];exact Ac (Du (HBd.out.cell (i:=2) (by show 2<3;omega))))) fun ax hx=>hK _ _ trivial fun hS2=>?_) (fun KK hK=>Ds (w':=w.drew) h69 rfl (by decide) (fr rfl) (Aq xs) (by show (execOp _ (⟨_,.convert 74 9 (.tmp 38),_,_,_,_⟩:Oper)).run _ _=_;exact (by unfold execOp;simp only [h69.ev 38 rfl];exact Ac hst)) fun ax hx=>hK _ _ trivial fun hS2=>?_)
  · clear hK KK
    refine AE 7 rfl rfl κ fun KK hK=>Ds (w':=w.drew) hx rfl (by decide) (fr rfl) (Aq xs) (by show (execOp _ (⟨_,.convert 74 9 (.tmp 38),_,_,_,_⟩:Oper)).run _ _=_;exact (by unfold execOp;simp only [hx.ev 38 rfl];exact Ac hst)) fun a72 h71=>hK _ _ (trivial) fun hS2b=>?_
    clear hK KK
    refine Aj hS1 h71 8 rfl rfl (by decide) (fr rfl) κ κ κ (fun _ _ _ _ h=>h) (ptV ⟨at_,xs⟩) (Or.inl ⟨Eq.refl true,fun w1 hSw=>(by show (execOp _ (⟨_,.build 127 #[(0,(.tmp 37)),(1,(.tmp 39))],_,_,_,_⟩:Oper)).run _ _=_;exact (by unfold execOp;simp only [List.map_toArray,List.map_cons,List.map_nil,h71.ev 37 rfl,h71.ev 39 rfl];exact Ac (Jy _ _ _)))⟩) fun a74 h73=>?_
    obtain ⟨ws,hws⟩:∃ x,x=w.drew.alloc (.cells (ptC ⟨at_,xs⟩).toArray 127):=⟨_,rfl⟩
    have bs:Below w.drew.heap.size w.drew ws:=by rw [hws];exact Cq _ _
    have rs:Fl ws (some ⟨w.drew.heap.size,0,none⟩) 1 [⟨at_,xs⟩]:=by rw [hws];exact PG _ _
    refine AE 9 rfl rfl κ fun KK hK=>Ds (w':=ws) h73 rfl (by decide) (fr rfl) (.slice (some ⟨w.drew.heap.size,0,none⟩) ([⟨at_,xs⟩]:List PtM).length 1) (by show (execOp _ (⟨_,.buildSlice 68 1 #[(0,(.tmp 40))],_,_,_,_⟩:Oper)).run _ _=_;exact (by unfold execOp;simp only [List.map_toArray,List.map_cons,List.map_nil,h73.ev 40 rfl];rw [hws];exact Ac (Hn _ _))) fun a76 h75=>hK _ _ (trivial) fun hS3=>?_
    clear hK KK
    have HBs:=hid (HBd.out.mono bs);have HOs:Hid (BG ws B ta tc P):=hid (Own.mono HOd.out bs);have HRs:=hid rs;have HTs:Hid (Turns (fun k=>k=tg∨some k=obA ta) w ws):=hid ((Turns.refl _ w).drew.trans (Turns.of_below bs));have hsz:B≤ws.heap.size:=Nat.le_trans hB bs.size;have hszw:w.heap.size≤ws.heap.size:=bs.size;clear hws rs bs
    refine AE 10 rfl rfl κ fun KK hK=>Ji h75 rfl (by decide) (fr rfl) (.tmp 36) (.tmp 41) rfl EPt B (h75.ev 36 rfl) (h75.ev 41 rfl) HOs.out HRs.out (JX _) (by show (P.length+1)*24≤_;omega) (by show P.length+1≤_;omega) hsz fun a78 ta2 tc2 w3 o3 g3 b3 x3 h77=>hK _ _ trivial fun hS4=>?_
    clear hK KK
    have HO3:Hid (BG w3 B ta2 tc2 (P++[(⟨at_,xs⟩:PtM)])):=hid (by unfold BG;rw [List.length_append,List.flatMap_append];exact o3)
    have HB3:Hid (Blk w3 tg 70 (txC g lg ta P.length tc)):=hid ((b3.block tg htg).trans HBs.out)
    have HT3:Hid (Turns (fun k=>k=tg∨some k=obA ta) w w3):=hid (HTs.out.trans ⟨g3.os,g3.tape,g3.output,g3.size,fun k hk hx=>g3.block k hk (by rw [Fi];exact fun e=>hx (.inr e))⟩)
    have HX3:=hid (Nv x3 hszw)
    clear o3 g3 b3 x3
    refine tkn hS1 h77 11 32 rfl rfl rfl rfl κ (fun _ _ _ _ h=>h) rfl rfl rfl fun a80 h79=>?_
    refine tkf hS1 h79 12 43 rfl rfl rfl rfl κ (fun _ _ _ _ h=>h) rfl rfl rfl (fun w=>Cu _ w) fun a82 h81=>?_
    obtain ⟨w4,hw4⟩:∃ x,x=w3.setCell ⟨tg,2,none⟩ (.slice ta2 (P.length+([⟨at_,xs⟩]:List PtM).length) tc2):=⟨_,rfl⟩
    refine AE 13 rfl rfl κ fun KK hK=>LI h81 rfl (w':=w4) (by show (execOp _ (⟨_,.store 68 (.tmp 44) (.tmp 42),_,_,_,_⟩:Oper)).run _ _=_;exact (by rw [hw4];unfold execOp;simp only [h81.ev 44 rfl,h81.ev 42 rfl];exact Gf (PI (HB3.out.cell (i:=2) (by show 2<3;omega)) (HB3.out.frozen 2) _ _ _))) fun a84 h83=>hK _ _ trivial fun _=>?_
    clear hK KK
    have HB4:Hid (Blk w4 tg 70 (txC g lg ta2 (P++[(⟨at_,xs⟩:PtM)]).length tc2)):=hid (by rw [hw4,List.length_append];exact HB3.out.set 2 _)
    have t4:Turns (fun k=>k=tg) w3 w4:=by rw [hw4];exact (Turns.refl (fun k=>k=tg) w3).setCell (p:=⟨tg,2,none⟩) rfl _
    have HO4:Hid (BG w4 B ta2 tc2 (P++[(⟨at_,xs⟩:PtM)])):=hid (t4.own HO3.out (fun k e=>ω));have HT4:Hid (Turns (fun k=>k=tg∨some k=obA ta) w w4):=hid (HT3.out.trans (t4.mono (fun k e=>.inl e)));clear t4 hw4
    refine wpAnyH_done κ ?_ _
    have h85:=h83.subs (l':=[(6,_),(0,_),(1,_),(2,_)]) rfl
    clear h83
    iterate 4 go_step
    have h86:=h85.subs (l':=[(0,_),(1,_),(2,_)]) rfl
    clear h85
    refine wv h86 rfl rfl rfl rfl (ν 0) rfl fun a88 h87=>?_
    iterate 4 go_step
    exact bodyPost_ret (AK rfl (h87.known (6,ν 0) (by simp))) h87.defs ⟨rfl,ta2,tc2,HB4.out,HO4.out,HT4.out,HX3.out⟩
  · clear hK KK
    refine Aj hS1 hx 8 rfl rfl (by decide) (fr rfl) κ κ κ (fun _ _ _ _ h=>h) (ptV ⟨at_,xs⟩) (Or.inl ⟨Eq.refl true,fun w1 hSw=>(by show (execOp _ (⟨_,.build 127 #[(0,(.tmp 37)),(1,(.tmp 39))],_,_,_,_⟩:Oper)).run _ _=_;exact (by unfold execOp;simp only [List.map_toArray,List.map_cons,List.map_nil,hx.ev 37 rfl,hx.ev 39 rfl];exact Ac (Jy _ _ _)))⟩) fun a90 h89=>?_
    obtain ⟨ws,hws⟩:∃ x,x=w.drew.alloc (.cells (ptC ⟨at_,xs⟩).toArray 127):=⟨_,rfl⟩
    have bs:Below w.drew.heap.size w.drew ws:=by rw [hws];exact Cq _ _
    have rs:Fl ws (some ⟨w.drew.heap.size,0,none⟩) 1 [⟨at_,xs⟩]:=by rw [hws];exact PG _ _
    refine Vc 4 9 rfl rfl rfl rfl κ (fun KK hK=>Ds (w':=w.drew) h89 rfl (by decide) (fr rfl) (.slice ta P.length tc) (by show (execOp _ (⟨_,.load 68 (.tmp 35),_,_,_,_⟩:Oper)).run _ _=_;exact (by unfold execOp;simp only [h89.ev 35 rfl];exact Ac (Du (HBd.out.cell (i:=2) (by show 2<3;omega))))) fun ax hx=>hK _ _ trivial fun hS2=>?_) (fun KK hK=>Ds (w':=ws) h89 rfl (by decide) (fr rfl) (.slice (some ⟨w.drew.heap.size,0,none⟩) ([⟨at_,xs⟩]:List PtM).length 1) (by show (execOp _ (⟨_,.buildSlice 68 1 #[(0,(.tmp 40))],_,_,_,_⟩:Oper)).run _ _=_;exact (by unfold execOp;simp only [List.map_toArray,List.map_cons,List.map_nil,h89.ev 40 rfl];rw [hws];exact Ac (Hn _ _))) fun ax hx=>hK _ _ trivial fun hS2=>?_)
    · clear hK KK
      refine AE 9 rfl rfl κ fun KK hK=>Ds (w':=ws) hx rfl (by decide) (fr rfl) (.slice (some ⟨w.drew.heap.size,0,none⟩) ([⟨at_,xs⟩]:List PtM).length 1) (by show (execOp _ (⟨_,.buildSlice 68 1 #[(0,(.tmp 40))],_,_,_,_⟩:Oper)).run _ _=_;exact (by unfold execOp;simp only [List.map_toArray,List.map_cons,List.map_nil,hx.ev 40 rfl];rw [hws];exact Ac (Hn _ _))) fun a92 h91=>hK _ _ (trivial) fun hS3=>?_
      clear hK KK
      have HBs:=hid (HBd.out.mono bs);have HOs:Hid (BG ws B ta tc P):=hid (Own.mono HOd.out bs);have HRs:=hid rs;have HTs:Hid (Turns (fun k=>k=tg∨some k=obA ta) w ws):=hid ((Turns.refl _ w).drew.trans (Turns.of_below bs));have hsz:B≤ws.heap.size:=Nat.le_trans hB bs.size;have hszw:w.heap.size≤ws.heap.size:=bs.size;clear hws rs bs
      refine AE 10 rfl rfl κ fun KK hK=>Ji h91 rfl (by decide) (fr rfl) (.tmp 36) (.tmp 41) rfl EPt B (h91.ev 36 rfl) (h91.ev 41 rfl) HOs.out HRs.out (JX _) (by show (P.length+1)*24≤_;omega) (by show P.length+1≤_;omega) hsz fun a94 ta2 tc2 w3 o3 g3 b3 x3 h93=>hK _ _ trivial fun hS4=>?_
      clear hK KK
      have HO3:Hid (BG w3 B ta2 tc2 (P++[(⟨at_,xs⟩:PtM)])):=hid (by unfold BG;rw [List.length_append,List.flatMap_append];exact o3)
      have HB3:Hid (Blk w3 tg 70 (txC g lg ta P.length tc)):=hid ((b3.block tg htg).trans HBs.out)
      have HT3:Hid (Turns (fun k=>k=tg∨some k=obA ta) w w3):=hid (HTs.out.trans ⟨g3.os,g3.tape,g3.output,g3.size,fun k hk hx=>g3.block k hk (by rw [Fi];exact fun e=>hx (.inr e))⟩)
      have HX3:=hid (Nv x3 hszw)
      clear o3 g3 b3 x3
      refine tkn hS1 h93 11 32 rfl rfl rfl rfl κ (fun _ _ _ _ h=>h) rfl rfl rfl fun a96 h95=>?_
      refine tkf hS1 h95 12 43 rfl rfl rfl rfl κ (fun _ _ _ _ h=>h) rfl rfl rfl (fun w=>Cu _ w) fun a98 h97=>?_
      obtain ⟨w4,hw4⟩:∃ x,x=w3.setCell ⟨tg,2,none⟩ (.slice ta2 (P.length+([⟨at_,xs⟩]:List PtM).length) tc2):=⟨_,rfl⟩
      refine AE 13 rfl rfl κ fun KK hK=>LI h97 rfl (w':=w4) (by show (execOp _ (⟨_,.store 68 (.tmp 44) (.tmp 42),_,_,_,_⟩:Oper)).run _ _=_;exact (by rw [hw4];unfold execOp;simp only [h97.ev 44 rfl,h97.ev 42 rfl];exact Gf (PI (HB3.out.cell (i:=2) (by show 2<3;omega)) (HB3.out.frozen 2) _ _ _))) fun a100 h99=>hK _ _ trivial fun _=>?_
      clear hK KK
      have HB4:Hid (Blk w4 tg 70 (txC g lg ta2 (P++[(⟨at_,xs⟩:PtM)]).length tc2)):=hid (by rw [hw4,List.length_append];exact HB3.out.set 2 _)
      have t4:Turns (fun k=>k=tg) w3 w4:=by rw [hw4];exact (Turns.refl (fun k=>k=tg) w3).setCell (p:=⟨tg,2,none⟩) rfl _
      have HO4:Hid (BG w4 B ta2 tc2 (P++[(⟨at_,xs⟩:PtM)])):=hid (t4.own HO3.out (fun k e=>ω));have HT4:Hid (Turns (fun k=>k=tg∨some k=obA ta) w w4):=hid (HT3.out.trans (t4.mono (fun k e=>.inl e)));clear t4 hw4
      refine wpAnyH_done κ ?_ _
      have h101:=h99.subs (l':=[(6,_),(0,_),(1,_),(2,_)]) rfl
      clear h99
      iterate 4 go_step
      have h102:=h101.subs (l':=[(0,_),(1,_),(2,_)]) rfl
      clear h101
      refine wv h102 rfl rfl rfl rfl (ν 0) rfl fun a104 h103=>?_
      iterate 4 go_step
      exact bodyPost_ret (AK rfl (h103.known (6,ν 0) (by simp))) h103.defs ⟨rfl,ta2,tc2,HB4.out,HO4.out,HT4.out,HX3.out⟩
    · clear hK KK
      have HBs:=hid (HBd.out.mono bs);have HOs:Hid (BG ws B ta tc P):=hid (Own.mono HOd.out bs);have HRs:=hid rs;have HTs:Hid (Turns (fun k=>k=tg∨some k=obA ta) w ws):=hid ((Turns.refl _ w).drew.trans (Turns.of_below bs));have hsz:B≤ws.heap.size:=Nat.le_trans hB bs.size;have hszw:w.heap.size≤ws.heap.size:=bs.size;clear hws rs bs
      refine AE 4 rfl rfl κ fun KK hK=>Ds (w':=ws) hx rfl (by decide) (fr rfl) (.slice ta P.length tc) (by show (execOp _ (⟨_,.load 68 (.tmp 35),_,_,_,_⟩:Oper)).run _ _=_;exact (by unfold execOp;simp only [hx.ev 35 rfl];exact Ac (Du (HBs.out.cell (i:=2) (by show 2<3;omega))))) fun a106 h105=>hK _ _ (trivial) fun hS3=>?_
      clear hK KK
      refine AE 10 rfl rfl κ fun KK hK=>Ji h105 rfl (by decide) (fr rfl) (.tmp 36) (.tmp 41) rfl EPt B (h105.ev 36 rfl) (h105.ev 41 rfl) HOs.out HRs.out (JX _) (by show (P.length+1)*24≤_;omega) (by show P.length+1≤_;omega) hsz fun a108 ta2 tc2 w3 o3 g3 b3 x3 h107=>hK _ _ trivial fun hS4=>?_
      clear hK KK
      have HO3:Hid (BG w3 B ta2 tc2 (P++[(⟨at_,xs⟩:PtM)])):=hid (by unfold BG;rw [List.length_append,List.flatMap_append];exact o3)
      have HB3:Hid (Blk w3 tg 70 (txC g lg ta P.length tc)):=hid ((b3.block tg htg).trans HBs.out)
      have HT3:Hid (Turns (fun k=>k=tg∨some k=obA ta) w w3):=hid (HTs.out.trans ⟨g3.os,g3.tape,g3.output,g3.size,fun k hk hx=>g3.block k hk (by rw [Fi];exact fun e=>hx (.inr e))⟩)
      have HX3:=hid (Nv x3 hszw)
      clear o3 g3 b3 x3
      refine tkn hS1 h107 11 32 rfl rfl rfl rfl κ (fun _ _ _ _ h=>h) rfl rfl rfl fun a110 h109=>?_
      refine tkf hS1 h109 12 43 rfl rfl rfl rfl κ (fun _ _ _ _ h=>h) rfl rfl rfl (fun w=>Cu _ w) fun a112 h111=>?_
      obtain ⟨w4,hw4⟩:∃ x,x=w3.setCell ⟨tg,2,none⟩ (.slice ta2 (P.length+([⟨at_,xs⟩]:List PtM).length) tc2):=⟨_,rfl⟩
      refine AE 13 rfl rfl κ fun KK hK=>LI h111 rfl (w':=w4) (by show (execOp _ (⟨_,.store 68 (.tmp 44) (.tmp 42),_,_,_,_⟩:Oper)).run _ _=_;exact (by rw [hw4];unfold execOp;simp only [h111.ev 44 rfl,h111.ev 42 rfl];exact Gf (PI (HB3.out.cell (i:=2) (by show 2<3;omega)) (HB3.out.frozen 2) _ _ _))) fun a114 h113=>hK _ _ trivial fun _=>?_
      clear hK KK
      have HB4:Hid (Blk w4 tg 70 (txC g lg ta2 (P++[(⟨at_,xs⟩:PtM)]).length tc2)):=hid (by rw [hw4,List.length_append];exact HB3.out.set 2 _)
      have t4:Turns (fun k=>k=tg) w3 w4:=by rw [hw4];exact (Turns.refl (fun k=>k=tg) w3).setCell (p:=⟨tg,2,none⟩) rfl _
      have HO4:Hid (BG w4 B ta2 tc2 (P++[(⟨at_,xs⟩:PtM)])):=hid (t4.own HO3.out (fun k e=>ω));have HT4:Hid (Turns (fun k=>k=tg∨some k=obA ta) w w4):=hid (HT3.out.trans (t4.mono (fun k e=>.inl e)));clear t4 hw4
      refine wpAnyH_done κ ?_ _
      have h115:=h113.subs (l':=[(6,_),(0,_),(1,_),(2,_)]) rfl
      clear h113
      iterate 4 go_step
      have h116:=h115.subs (l':=[(0,_),(1,_),(2,_)]) rfl
      clear h115
      refine wv h116 rfl rfl rfl rfl (ν 0) rfl fun a118 h117=>?_
      iterate 4 go_step
      exact bodyPost_ret (AK rfl (h117.known (6,ν 0) (by simp))) h117.defs ⟨rfl,ta2,tc2,HB4.out,HO4.out,HT4.out,HX3.out⟩
theorem RC {w:World} {tg g lg v d p tc B:Nat} {ta:Option Addr} {M:MemM} {P:List PtM} (hm:MemP w g v d p M) (hb:Blk w tg 70 (txC g lg ta P.length tc)) (ho:BG w B ta tc P) (hB:B≤w.heap.size) (htg:tg<B) (hM:M.V.length≤1048576) {a:Option Addr} {c:Nat} {xs:List UInt8} (h0:Bp w a c xs) {at_:Int} (ha:ED at_) (hP:P.length≤64) (hx:xs.length≤4611686018427387904) :
    Calls Tryz.prog 75 #[π tg,ν at_,.slice a xs.length c] w (Ly w tg g lg B ta M P at_ xs):=by
  by_cases ok:okT M P at_ xs.length=true
  · have k:=ok
    unfold okT at k
    rw [decide_eq_true_iff] at k
    refine (WM hm hb ho hB htg hM h0 k.1 k.2.1 k.2.2.1 k.2.2.2).mono fun e w' q=>?_
    unfold Ly ND Lw
    rw [if_pos ok,if_pos ok]
    exact q
  have ok2:okT M P at_ xs.length=false:=by simpa using ok
  have HE:=hid (TP ok2 hb ho)
  have c0:w.cell? ⟨tg,0,none⟩=some (π g):=hb.cell (i:=0) (by show 0<3;omega)
  have c2:w.cell? ⟨tg,2,none⟩=some (.slice ta P.length tc):=hb.cell (i:=2) (by show 2<3;omega)
  unfold okT at ok2
  rw [decide_eq_false_iff_not] at ok2
  have HS:=hid (Kd hm)
  unfold ED at ha
  obtain ⟨m,hm'⟩:∃ m:Nat,m=M.V.length:=⟨_,rfl⟩
  obtain ⟨n,hn⟩:∃ n:Nat,n=xs.length:=⟨_,rfl⟩
  obtain ⟨k,hk⟩:∃ n:Nat,n=P.length:=⟨_,rfl⟩
  rw [← hm'] at HS hM ok2;rw [← hn] at ok2 hx ⊢;rw [← hk] at ok2 c2 hP
  clear hm hb ho h0 hm' hn hk ok
  by_cases c1:(256:Int)<(n:Int)
  · have d1:decide ((256:Int)<(n:Int))=true:=decide_eq_true c1
    clear ok2 hx hP hM ha
    go_enter Tryz.func75,Tryz.ntmps75
    go_wp2
    go_ret
    exact HE.out
  have d1:decide ((256:Int)<(n:Int))=false:=decide_eq_false c1
  by_cases c3:(64:Int)≤(k:Int)
  · have d3:decide ((64:Int)≤(k:Int))=true:=decide_eq_true c3
    clear ok2 hx hP hM ha
    go_enter Tryz.func75,Tryz.ntmps75
    go_wp2
    go_ret
    exact HE.out
  have d3:decide ((64:Int)≤(k:Int))=false:=decide_eq_false c3
  by_cases c4:at_<0
  · have d4:decide (at_<(0:Int))=true:=decide_eq_true c4
    clear ok2 hx hP hM ha
    go_enter Tryz.func75,Tryz.ntmps75
    go_wp2
    go_ret
    exact HE.out
  have d4:decide (at_<(0:Int))=false:=decide_eq_false c4
  have c5:(m:Int)-(n:Int)<at_:=ω
  have d5:decide ((m:Int)-(n:Int)<at_)=true:=decide_eq_true c5
  have e5:IntKind.i64.wrap ((m:Int)-(n:Int))=(m:Int)-(n:Int):=IntWalk.i64_in _ ω
  clear ok2 hx hP ha
  go_enter Tryz.func75,Tryz.ntmps75
  go_wp2_with (go_at_call 45;refine HS.out.mono ?_;rintro e w1 ⟨rfl,rfl⟩)
  go_ret
  exact HE.out
end
section
theorem Et {X:Nat→Prop} {w w':World} {lg g v d p at_ size:Nat} {M:MemM} (h:LogP w lg g v d p at_ size M) (t:Turns X w w') (hl:¬ X lg) (hg:¬ X g) (hv:¬ X v) (hd:¬ X d) (hp:¬ X p):LogP w' lg g v d p at_ size M:=⟨t.blk h.l hl,h.m.turns t hg hv hd hp⟩
theorem Xn {M:MemM} {at_ size:Nat} {P:List PtM} (h:El M at_ size P≠0):DT M at_ size P=M:=by
  unfold El at h
  unfold DT
  by_cases c1:IK P=0
  · rw [if_pos c1] at h
    by_cases c2:size-8<(CC M.V at_ size).2+(Ct P).length
    · rw [if_neg (fun q=>q.2 c2)]
    · rw [if_neg c2] at h;exact absurd rfl h
  · rw [if_neg (fun q=>c1 q.1)]
theorem Xv (args:Array Value) (w:World):(callFunc 32 args).run Tryz.prog w=.ok (.enter 32 args) w:=by
  have h:=Tryz.func32
  go_simp
theorem PT (args:Array Value) (w:World):(callFunc 31 args).run Tryz.prog w=.ok (.enter 31 args) w:=by
  have h:=Tryz.func31
  go_simp
theorem Xx (args:Array Value) (w:World):(callFunc 10 args).run Tryz.prog w=.ok (.enter 10 args) w:=by
  have h:=Tryz.func10
  go_simp
theorem Jb (g:Nat) (w:World):(Instr.fieldAt 70 (π g) 1).run Tryz.prog w=.ok (.pointer (some ⟨g,1,none⟩)) w:=rfl
theorem PW {w:World} {tg g lg tc:Nat} {ta:Option Addr} {P:List PtM} (hb:Blk w tg 70 (txC g lg ta P.length tc)) (h0:P=[]):Calls Tryz.prog 12 #[π tg] w fun e w'=>e=.returned (ν 0)∧Blk w' tg 70 (txC g lg ta P.length tc)∧Turns (fun k=>k=tg) w w':=by
  have HB:=hid hb
  have n1:=hid (show ((P.length:Int) == (0:Int))=true by rw [h0];rfl)
  clear hb
  go_enter Tryz.func12,Tryz.ntmps12
  iterate 3 go_step
  refine AW (N:=29) (l:=[(0,π tg)]) ⟨rfl,(by intro x hx;simp only [List.mem_cons,List.not_mem_nil,or_false] at hx;rcases hx with rfl<;>rfl),rfl⟩ fun a2 h1=>?_
  refine mv h1 rfl fun _ h3=>?_
  iterate 6 go_step
  refine mv h3 rfl fun _ h5=>?_
  refine wv h5 rfl rfl rfl rfl (π tg) (by unfold execOp;simp only [h5.ev 4 rfl];exact rfl) fun a8 h7=>?_
  refine wv h7 rfl rfl rfl rfl (.pointer (some ⟨tg,2,none⟩)) (by unfold execOp;simp only [h7.ev 5 rfl];exact Ac (Cu (tg) _)) fun a10 h9=>?_
  refine wv h9 rfl rfl rfl rfl (.slice ta P.length tc) (by unfold execOp;simp only [h9.ev 6 rfl];exact Ac (Du (HB.out.cell (i:=2) (by show 2<3;omega)))) fun a12 h11=>?_
  refine wv h11 rfl rfl rfl rfl (ν (P.length:Int)) (Df rfl (h11.ev 7 rfl) _) fun a14 h13=>?_
  refine wv h13 rfl rfl rfl rfl (.bool true) (by unfold execOp;simp only [h13.ev 8 rfl];exact Ac (Aao _ _ _ _ _ n1.out)) fun a16 h15=>?_
  refine h15.sk [9,2,0] rfl fun h17=>?_
  iterate 3 go_step
  refine wp_cond (t:=true) (h17.ev 9 rfl) ?_
  simp only [if_true]
  refine h17.sk [2,0] rfl fun h18=>?_
  iterate 2 go_step
  refine h18.sk [0] rfl fun h19=>?_
  refine mv h19 rfl fun _ h20=>?_
  iterate 4 go_step
  simp only [Exit.then,Exit.inBlock]
  exact bodyPost_ret (AK rfl (h20.known (2,ν 0) (by simp))) h20.defs ⟨rfl,HB.out,Turns.refl _ _⟩
theorem PV {w:World} {la ls:Nat} {tg g lg v d p tc B:Nat} {ta:Option Addr} {M:MemM} {P:List PtM} (hl:LogP w lg g v d p la ls M) (hok:LogOk la ls M) (hb:Blk w tg 70 (txC g lg ta P.length tc)) (hr:Fl w ta tc P) (k1:tg≠lg) (k2:tg≠g) (k3:tg≠v) (k4:tg≠d) (k5:tg≠p) (hn:P.length≤64) (okp:IS P) (h0:P≠[]) (hE:El M la ls P≠0):Calls Tryz.prog 12 #[π tg] w fun e w'=>e=.returned (ν (El M la ls P))∧LogP w' lg g v d p la ls (DT M la ls P)∧Blk w' tg 70 (txC g lg ta P.length tc)∧Turns (XM v d p) w w':=by
  have n1:=hid (show ((P.length:Int) == (0:Int))=false by have z:=List.length_pos_iff.2 h0;simpa using (ω:P.length≠0))
  have n2:=hid (show (El M la ls P != 0)=true by simpa using hE)
  have ht:¬ XM v d p tg:=by rintro (e | e | e)<;>omega
  have HB:=hid hb;have HL:=hid hl;have HR:=hid hr
  clear hb hl hr
  go_enter Tryz.func12,Tryz.ntmps12
  iterate 3 go_step
  refine AW (N:=29) (l:=[(0,π tg)]) ⟨rfl,(by intro x hx;simp only [List.mem_cons,List.not_mem_nil,or_false] at hx;rcases hx with rfl<;>rfl),rfl⟩ fun a2 h1=>?_
  refine mv h1 rfl fun _ h3=>?_
  iterate 6 go_step
  refine mv h3 rfl fun _ h5=>?_
  refine wv h5 rfl rfl rfl rfl (π tg) (by unfold execOp;simp only [h5.ev 4 rfl];exact rfl) fun a8 h7=>?_
  refine wv h7 rfl rfl rfl rfl (.pointer (some ⟨tg,2,none⟩)) (by unfold execOp;simp only [h7.ev 5 rfl];exact Ac (Cu (tg) _)) fun a10 h9=>?_
  refine wv h9 rfl rfl rfl rfl (.slice ta P.length tc) (by unfold execOp;simp only [h9.ev 6 rfl];exact Ac (Du (HB.out.cell (i:=2) (by show 2<3;omega)))) fun a12 h11=>?_
  refine wv h11 rfl rfl rfl rfl (ν (P.length:Int)) (Df rfl (h11.ev 7 rfl) _) fun a14 h13=>?_
  refine wv h13 rfl rfl rfl rfl (.bool false) (by unfold execOp;simp only [h13.ev 8 rfl];exact Ac (Aao _ _ _ _ _ n1.out)) fun a16 h15=>?_
  refine h15.sk [9,2,0] rfl fun h17=>?_
  iterate 3 go_step
  refine wp_cond (t:=false) (h17.ev 9 rfl) ?_
  simp only [Bool.false_eq_true,if_false]
  refine h17.sk [2,0] rfl fun h18=>?_
  iterate 5 go_step
  have HBd:=hid (HB.out.mono (Below.refl _ _).drew);have HLd:=hid (HL.out.mono (Below.refl _ _).drew);have HRd:=hid (HR.out.mono (Below.refl _ _).drew)
  refine wp_region_held_drew (S:=fun w'=>Blk w' tg 70 (txC g lg ta P.length tc)) κ HBd.out (fun hS1=>?_)
  refine tkm hS1 h18 0 0 rfl rfl rfl rfl κ (fun _ _ _ _ h=>h) rfl (fun _=>rfl) rfl fun a20 h19=>?_
  refine tkn hS1 h19 1 10 rfl rfl rfl rfl κ (fun _ _ _ _ h=>h) rfl rfl rfl fun a22 h21=>?_
  refine tkf hS1 h21 2 11 rfl rfl rfl rfl κ (fun _ _ _ _ h=>h) rfl rfl rfl (fun w=>Jb _ w) fun a24 h23=>?_
  refine tkl hS1 h23 3 12 rfl rfl rfl rfl κ (fun _ _ _ _ h=>h) rfl rfl rfl (fun _ hSw=>(Po (hSw.cell (i:=1) (by show 1<3;omega)))) fun a26 h25=>?_
  refine tkm hS1 h25 4 0 rfl rfl rfl rfl κ (fun _ _ _ _ h=>h) rfl (fun _=>rfl) rfl fun a28 h27=>?_
  refine tkn hS1 h27 5 14 rfl rfl rfl rfl κ (fun _ _ _ _ h=>h) rfl rfl rfl fun a30 h29=>?_
  refine tkf hS1 h29 6 15 rfl rfl rfl rfl κ (fun _ _ _ _ h=>h) rfl rfl rfl (fun w=>Cu _ w) fun a32 h31=>?_
  refine tkl hS1 h31 7 16 rfl rfl rfl rfl κ (fun _ _ _ _ h=>h) rfl rfl rfl (fun _ hSw=>(Du (hSw.cell (i:=2) (by show 2<3;omega)))) fun a34 h33=>?_
  refine AE 8 rfl rfl κ fun KK hK=>DA h33 rfl (by decide) (fr rfl) (fun args=>PT args _) rfl #[π lg,.slice ta P.length tc] (by simp only [List.map_toArray,List.map_cons,List.map_nil,h33.ev 13 rfl,h33.ev 17 rfl]) (R:=fun v' w'=>v'=ν (El M la ls P)∧LogP w' lg g v d p la ls (DT M la ls P)∧Turns (XM v d p) w.drew w') (LO HLd.out hok HRd.out okp ω) fun a36 v2 w2 r2 h35=>hK _ _ (r2.2.2.blk HBd.out ht) fun hS2=>?_
  clear hK KK
  obtain ⟨rfl,l2,t2⟩:=r2
  have HL2:=hid l2;have HB2:Hid (Blk w2 tg 70 (txC g lg ta P.length tc)):=hid (t2.blk HBd.out ht);have HT2:Hid (Turns (XM v d p) w w2):=hid ((Turns.refl _ w).drew.trans t2);clear l2 t2
  refine tkm hS2 h35 9 18 rfl rfl rfl rfl κ (fun _ _ _ _ h=>h) rfl (fun _=>rfl) rfl fun a38 h37=>?_
  refine wpAnyH_done κ ?_ _
  refine h37.sk [3,2,0] rfl fun h39=>?_
  iterate 4 go_step
  refine mv h39 rfl fun _ h40=>?_
  refine wv h40 rfl rfl rfl rfl (.bool true) (by unfold execOp;simp only [h40.ev 19 rfl];exact Ac (QD _ _ _ _ _ n2.out)) fun a43 h42=>?_
  refine h42.sk [20,3,2,0] rfl fun h44=>?_
  iterate 3 go_step
  refine wp_cond (t:=true) (h44.ev 20 rfl) ?_
  simp only [if_true]
  refine h44.sk [3,2,0] rfl fun h45=>?_
  iterate 2 go_step
  refine mv h45 rfl fun _ h46=>?_
  refine h46.sk [21,3,0] rfl fun h48=>?_
  refine mv h48 rfl fun _ h49=>?_
  refine h49.sk [2,3,0] rfl fun h51=>?_
  iterate 4 go_step
  simp only [Exit.then,Exit.inBlock]
  exact bodyPost_ret (AK rfl (h51.known (2,ν (El M la ls P)) (by simp))) h51.defs ⟨rfl,HL2.out,HB2.out,HT2.out⟩
theorem Sg {w:World} {la ls:Nat} {tg g lg v d p tc B:Nat} {ta:Option Addr} {M:MemM} {P:List PtM} (hl:LogP w lg g v d p la ls M) (hok:LogOk la ls M) (hb:Blk w tg 70 (txC g lg ta P.length tc)) (hr:Fl w ta tc P) (k1:tg≠lg) (k2:tg≠g) (k3:tg≠v) (k4:tg≠d) (k5:tg≠p) (hn:P.length≤64) (okp:IS P) (h0:P≠[]) (hE:El M la ls P=0):Calls Tryz.prog 12 #[π tg] w fun e w'=>e=.returned (ν 0)∧LogP w' lg g v d p la ls (Fu (DT M la ls P) la ls)∧Blk w' tg 70 (txC g lg none 0 0)∧Turns (fun k=>XM v d p k∨k=tg) w w':=by
  have n1:=hid (show ((P.length:Int) == (0:Int))=false by have z:=List.length_pos_iff.2 h0;simpa using (ω:P.length≠0))
  have n2:=hid (show (El M la ls P != 0)=false by rw [hE];rfl)
  have ht:¬ XM v d p tg:=by rintro (e | e | e)<;>omega
  have HB:=hid hb;have HL:=hid hl;have HR:=hid hr
  clear hb hl hr
  go_enter Tryz.func12,Tryz.ntmps12
  iterate 3 go_step
  refine AW (N:=29) (l:=[(0,π tg)]) ⟨rfl,(by intro x hx;simp only [List.mem_cons,List.not_mem_nil,or_false] at hx;rcases hx with rfl<;>rfl),rfl⟩ fun a2 h1=>?_
  refine mv h1 rfl fun _ h3=>?_
  iterate 6 go_step
  refine mv h3 rfl fun _ h5=>?_
  refine wv h5 rfl rfl rfl rfl (π tg) (by unfold execOp;simp only [h5.ev 4 rfl];exact rfl) fun a8 h7=>?_
  refine wv h7 rfl rfl rfl rfl (.pointer (some ⟨tg,2,none⟩)) (by unfold execOp;simp only [h7.ev 5 rfl];exact Ac (Cu (tg) _)) fun a10 h9=>?_
  refine wv h9 rfl rfl rfl rfl (.slice ta P.length tc) (by unfold execOp;simp only [h9.ev 6 rfl];exact Ac (Du (HB.out.cell (i:=2) (by show 2<3;omega)))) fun a12 h11=>?_
  refine wv h11 rfl rfl rfl rfl (ν (P.length:Int)) (Df rfl (h11.ev 7 rfl) _) fun a14 h13=>?_
  refine wv h13 rfl rfl rfl rfl (.bool false) (by unfold execOp;simp only [h13.ev 8 rfl];exact Ac (Aao _ _ _ _ _ n1.out)) fun a16 h15=>?_
  refine h15.sk [9,2,0] rfl fun h17=>?_
  iterate 3 go_step
  refine wp_cond (t:=false) (h17.ev 9 rfl) ?_
  simp only [Bool.false_eq_true,if_false]
  refine h17.sk [2,0] rfl fun h18=>?_
  iterate 5 go_step
  have HBd:=hid (HB.out.mono (Below.refl _ _).drew);have HLd:=hid (HL.out.mono (Below.refl _ _).drew);have HRd:=hid (HR.out.mono (Below.refl _ _).drew)
  refine wp_region_held_drew (S:=fun w'=>Blk w' tg 70 (txC g lg ta P.length tc)) κ HBd.out (fun hS1=>?_)
  refine tkm hS1 h18 0 0 rfl rfl rfl rfl κ (fun _ _ _ _ h=>h) rfl (fun _=>rfl) rfl fun a20 h19=>?_
  refine tkn hS1 h19 1 10 rfl rfl rfl rfl κ (fun _ _ _ _ h=>h) rfl rfl rfl fun a22 h21=>?_
  refine tkf hS1 h21 2 11 rfl rfl rfl rfl κ (fun _ _ _ _ h=>h) rfl rfl rfl (fun w=>Jb _ w) fun a24 h23=>?_
  refine tkl hS1 h23 3 12 rfl rfl rfl rfl κ (fun _ _ _ _ h=>h) rfl rfl rfl (fun _ hSw=>(Po (hSw.cell (i:=1) (by show 1<3;omega)))) fun a26 h25=>?_
  refine tkm hS1 h25 4 0 rfl rfl rfl rfl κ (fun _ _ _ _ h=>h) rfl (fun _=>rfl) rfl fun a28 h27=>?_
  refine tkn hS1 h27 5 14 rfl rfl rfl rfl κ (fun _ _ _ _ h=>h) rfl rfl rfl fun a30 h29=>?_
  refine tkf hS1 h29 6 15 rfl rfl rfl rfl κ (fun _ _ _ _ h=>h) rfl rfl rfl (fun w=>Cu _ w) fun a32 h31=>?_
  refine tkl hS1 h31 7 16 rfl rfl rfl rfl κ (fun _ _ _ _ h=>h) rfl rfl rfl (fun _ hSw=>(Du (hSw.cell (i:=2) (by show 2<3;omega)))) fun a34 h33=>?_
  refine AE 8 rfl rfl κ fun KK hK=>DA h33 rfl (by decide) (fr rfl) (fun args=>PT args _) rfl #[π lg,.slice ta P.length tc] (by simp only [List.map_toArray,List.map_cons,List.map_nil,h33.ev 13 rfl,h33.ev 17 rfl]) (R:=fun v' w'=>v'=ν (El M la ls P)∧LogP w' lg g v d p la ls (DT M la ls P)∧Turns (XM v d p) w.drew w') (LO HLd.out hok HRd.out okp ω) fun a36 v2 w2 r2 h35=>hK _ _ (r2.2.2.blk HBd.out ht) fun hS2=>?_
  clear hK KK
  obtain ⟨rfl,l2,t2⟩:=r2
  have HL2:=hid l2;have HB2:Hid (Blk w2 tg 70 (txC g lg ta P.length tc)):=hid (t2.blk HBd.out ht);have HT2:Hid (Turns (XM v d p) w w2):=hid ((Turns.refl _ w).drew.trans t2);clear l2 t2
  refine tkm hS2 h35 9 18 rfl rfl rfl rfl κ (fun _ _ _ _ h=>h) rfl (fun _=>rfl) rfl fun a38 h37=>?_
  refine wpAnyH_done κ ?_ _
  refine h37.sk [3,2,0] rfl fun h39=>?_
  iterate 4 go_step
  refine mv h39 rfl fun _ h40=>?_
  refine wv h40 rfl rfl rfl rfl (.bool false) (by unfold execOp;simp only [h40.ev 19 rfl];exact Ac (QD _ _ _ _ _ n2.out)) fun a43 h42=>?_
  refine h42.sk [20,3,2,0] rfl fun h44=>?_
  iterate 3 go_step
  refine wp_cond (t:=false) (h44.ev 20 rfl) ?_
  simp only [Bool.false_eq_true,if_false]
  refine h44.sk [3,2,0] rfl fun h45=>?_
  iterate 5 go_step
  refine mv h45 rfl fun _ h46=>?_
  refine wv h46 rfl rfl rfl rfl (π tg) (by unfold execOp;simp only [h46.ev 22 rfl];exact rfl) fun a49 h48=>?_
  refine wv h48 rfl rfl rfl rfl (.pointer (some ⟨tg,1,none⟩)) (by unfold execOp;simp only [h48.ev 23 rfl];exact Ac (Jb (tg) _)) fun a51 h50=>?_
  refine wv h50 rfl rfl rfl rfl (π lg) (by unfold execOp;simp only [h50.ev 24 rfl];exact Ac (Po (HB2.out.cell (i:=1) (by show 1<3;omega)))) fun a53 h52=>?_
  refine AN h52 (wn rfl) rfl (by decide) (fr rfl) (fun args=>Xv args _) rfl #[π lg] (by simp only [List.map_toArray,List.map_cons,List.map_nil,h52.ev 25 rfl]) (R:=fun v' w'=>v'=ν ((CC (DT M la ls P).V la ls).1.length:Int)∧LogP w' lg g v d p la ls (Fu (DT M la ls P) la ls)∧Turns (XM v d p) w2 w') (Zk HL2.out (Of hok P)) fun a55 v3 w3 r3 h54=>?_
  obtain ⟨rfl,l3,t3⟩:=r3
  have HL3:=hid l3;have HB3:Hid (Blk w3 tg 70 (txC g lg ta P.length tc)):=hid (t3.blk HB2.out ht);have HT3:=hid (HT2.out.trans t3);clear l3 t3
  refine h54.sk [3,2,0] rfl fun h56=>?_
  iterate 5 go_step
  refine mv h56 rfl fun _ h57=>?_
  have HD:=hid (Qc HB3.out)
  refine AN h57 (wn rfl) rfl (by decide) (fr rfl) (fun args=>Xx args _) rfl #[π tg] (by simp only [List.map_toArray,List.map_cons,List.map_nil,h57.ev 27 rfl]) (R:=fun v' w'=>Blk w' tg 70 (txC g lg none 0 0)∧Turns (fun k=>k=tg) w3 w') (HD.out.mono fun e w' q=>by obtain ⟨⟨x,rfl⟩,q2,q3⟩:=q;exact ⟨x,rfl,q2,q3⟩) fun a60 v4 w4 r4 h59=>?_
  have HB4:=hid r4.1;have HL4:Hid (LogP w4 lg g v d p la ls (Fu (DT M la ls P) la ls)):=hid (Et HL3.out r4.2 (fun e=>k1 e.symm) (fun e=>k2 e.symm) (fun e=>k3 e.symm) (fun e=>k4 e.symm) (fun e=>k5 e.symm));have HT4:Hid (Turns (fun k=>XM v d p k∨k=tg) w w4):=hid ((HT3.out.mono (fun k e=>.inl e)).trans (r4.2.mono (fun k e=>.inr e)));clear r4
  refine h59.sk [3,2,0] rfl fun h61=>?_
  iterate 5 go_step
  refine h61.sk [3,0] rfl fun h62=>?_
  refine mv h62 rfl fun _ h63=>?_
  iterate 4 go_step
  exact bodyPost_ret (AK rfl (h63.known (2,ν 0) (by simp))) h63.defs ⟨rfl,HL4.out,HB4.out,HT4.out⟩
end
section
theorem Zs {P:Program} {o:Oper} {x y:Operand} {t t2:TypeId} (ho:o.op=.call { callee:=.builtin .max,args:=#[x,y],argTypes:=#[t,t2] }) {ρ:Operand→Value} {i j:Int} (hx:ρ x=ν i) (hy:ρ y=ν j) (w:World):(execOp ρ o).run P w=.ok (.value (ν (max i j))) w:=by
  unfold execOp;rw [ho]
  simp [resolve,invoke,builtin,hx,hy,Builtin.max_,Builtin.max2]
  have e:(if i<j then j else i)=max i j:=by split<;>omega
  rw [e]
theorem Zt {P:Program} {o:Oper} {x y:Operand} {t t2:TypeId} (ho:o.op=.call { callee:=.builtin .min,args:=#[x,y],argTypes:=#[t,t2] }) {ρ:Operand→Value} {i j:Int} (hx:ρ x=ν i) (hy:ρ y=ν j) (w:World):(execOp ρ o).run P w=.ok (.value (ν (min i j))) w:=by
  unfold execOp;rw [ho]
  simp [resolve,invoke,builtin,hx,hy,Builtin.min_,Builtin.min2]
  have e:(if j<i then j else i)=min i j:=by split<;>omega
  rw [e]
theorem WH (w:World) {ty et:TypeId} {g off dLen dCap:Nat} {L:List Value} {s:List UInt8} (hblk:Blk w g et L) (hd:dLen≤s.length) (hfit:off+dLen≤L.length) :
    ∃ w',(Builtin.copy_ #[74,9] ty #[.slice (some ⟨g,off,none⟩) dLen dCap,Aq s]).run Tryz.prog w=.ok (goInt dLen) w'∧Blk w' g et (splice L off ((s.take dLen).map Af))∧w.grownBy w' (some g):=by
  have hu:=υ74
  have hs:(Tryz.prog.info? 5).map (·.size)=some 1:=κ
  have hlen:((s.take dLen).map Af).length=dLen:=by rw [List.length_map,List.length_take];omega
  have hst:=run_storeCells_at Tryz.prog g off et ((s.take dLen).map Af) 0 L.toArray w hblk (by rw [hlen];simpa using hfit) (CI _)
  have hmin:Nat.min s.length dLen=dLen:=Nat.min_eq_right hd
  have htk:List.take dLen (List.map (fun b:UInt8=>Value.int IntKind.u8 (b.toNat:Int)) s)=(s.take dLen).map Af:=by rw [List.map_take];rfl
  rw [hlen] at hst
  simp only [Nat.add_zero] at hst
  refine ⟨w.setRow g (L.take off++(s.take dLen).map Af++L.drop (off+dLen)).toArray,?_,?_,JI w g _⟩
  rotate_left
  · unfold Blk
    rw [setRow_heap w g _ _ et _ hblk]
    generalize (s.take dLen).map Af=cs at hlen
    simp [splice,hlen]
  · cases hq:Tryz.prog.info? 5 with
    | none=>simp [hq] at hs
    | some i=>
      simp [Builtin.copy_,run_underlying hu,Builtin.lenOf,Builtin.firstCells,sizeOf,typeInfo,hq,Aq,Cr,Gj,hmin]
      rw [htk,hst]
      simp [Result.andThen]
theorem QO (at_:Int) (b:List UInt8) (P:List PtM) (p:PtM):ovl at_ b (P++[p])=JT at_ (ovl at_ b P) p:=by unfold ovl;rw [List.foldl_append];rfl
theorem QP {at_:Int} {b:List UInt8} {P:List PtM} {k:Nat} (hk:k<P.length):ovl at_ b (P.take (k+1))=JT at_ (ovl at_ b (P.take k)) P[k]:=by rw [← List.take_append_getElem hk,QO]
end
section
theorem RL {α:Type} (L x:List α) (lo n:Nat) (h:lo+x.length≤n) (hn:n≤L.length):(splice L lo x).take n=splice (L.take n) lo x:=by
  unfold splice
  have e1:(L.take lo).length=lo:=by rw [List.length_take];omega
  (try rw [List.append_assoc]);(try rw [List.append_assoc])
  rw [List.take_append,e1,List.take_append,List.take_of_length_le (l:=x) ω,List.take_take,List.take_take,List.drop_take,show min n lo=lo by omega,show min lo n=lo by omega,show n-lo-x.length=n-(lo+x.length) by omega]
theorem Wn {w:World} {B:Nat} {a:Option Addr} {c:Nat} {b:List UInt8} (o:Ca w B a c b) (lo hi:Nat) (h1:lo<hi) (h2:hi≤b.length) :
    ∃ g,a=some ⟨g,0,none⟩∧B≤g ∧
      (∀ W,(Instr.sliceAt 74 (.slice a b.length c) (some (ν (lo:Int))) (some (ν (hi:Int))) none).run Tryz.prog W=.ok (.slice (some ⟨g,lo,none⟩) (hi-lo) (c-lo)) W) ∧
      (∀ (W:World) (s:List UInt8) (ty:TypeId),Ca W B a c b→hi-lo≤s.length→∃ w',(Builtin.copy_ #[74,9] ty #[.slice (some ⟨g,lo,none⟩) (hi-lo) (c-lo),Aq s]).run Tryz.prog W=.ok (goInt (hi-lo:Nat)) w'∧Ca w' B a c (splice b lo (s.take (hi-lo)))∧W.grownBy w' (some g)):=by
  have r:=o.row
  have hc:=r.2.1
  obtain ⟨q1,q2⟩:=o
  rcases q2 with ⟨q3,q4⟩ | ⟨g,cap,cur,q3,q4,q5,q6,q7,q8,q9⟩
  · omega
  have e1:a=some ⟨g,0,none⟩:=by cases q3;rfl
  have e2:cap=c:=by cases q3;rfl
  subst e1;subst e2
  refine ⟨g,rfl,q4,fun W=>?_,fun W s ty oW hs=>?_⟩
  · rw [run_sliceAt_slice W _ _ _ _ _ unB,run_slice_lh W _ _ _ _ unB _ _ _ _ ω ω ω,elB,szB]
    show Result.ok (sliced _ _ _ _ _) W=_
    rw [Int.toNat_natCast,Int.toNat_natCast]
    unfold sliced
    rw [if_neg ω]
    simp [Addr.add]
    omega
  · obtain ⟨p1,p2⟩:=oW
    rcases p2 with ⟨p3,p4⟩ | ⟨g2,cap2,cur2,p3,p4,p5,p6,p7,p8,p9⟩
    · omega
    have e1:g2=g:=by cases p3;rfl
    have e2:cap2=cap:=by cases p3;rfl
    subst e1;subst e2
    have hb:Blk W g2 5 cur2.toList:=by unfold Blk;rw [p5]
    have hsz:cur2.toList.length=cap2:=by rw [Array.length_toList,p8,Nat.mul_one]
    obtain ⟨w',r1,r2,r3⟩:=WH W (ty:=ty) (dCap:=cap2-lo) hb hs (by rw [hsz];omega:lo+(hi-lo)≤_)
    have hl:(s.take (hi-lo)).length=hi-lo:=by rw [List.length_take];omega
    have hsl:(splice b lo (s.take (hi-lo))).length=b.length:=length_splice _ _ _ (by rw [hl];omega)
    refine ⟨w',r1,?_,r3⟩
    unfold Ca
    rw [hsl]
    refine ⟨by rw [List.length_map,hsl,Nat.mul_one],.inr ⟨g2,cap2,(splice cur2.toList lo ((s.take (hi-lo)).map Af)).toArray,rfl,p4,r2,p6,p7,?_,?_⟩⟩
    · rw [List.size_toArray,length_splice _ _ _ (by rw [List.length_map,hl,hsz];omega),hsz,Nat.mul_one]
    · rw [Nat.mul_one] at p9 ⊢
      rw [Jg,← p9]
      exact RL _ _ _ _ (by rw [List.length_map,hl];omega) ω
end
section
theorem Acj (x y:Operand) (i j k:Int) (hk:i+j=k) (h1:-9223372036854775808≤k) (h2:k≤9223372036854775807) (w:World):(do eqGuard .add 3 x y (ν i) (ν j);binOp .add 3 (ν i) (ν j):Sem Value).run Tryz.prog w=.ok (ν k) w:=by
  have u3:=υ3
  have a3:=Tryz.isAgg3
  have z3:=Tryz.sizeOf3
  subst hk
  have e1:IntKind.i64.wrap (i+j)=i+j:=IntWalk.i64_in _ ω
  go_simp
theorem To {w:World} {B:Nat} {e:TypeId} {sz:Nat} {a:Option Addr} {n c:Nat} {cs:List Value} (h:Own w B e sz a n c cs):(Value.slice a n c).ownBlock≠some w.heap.size:=by
  intro e
  have z:=(World.ownsRow.lt h _ e).2
  omega
theorem TG {o:Oper} {x y:Operand} {t t2:TypeId} (ho:o.op=.call { callee:=.builtin .copy,args:=#[x,y],argTypes:=#[t,t2] }) {ρ:Operand→Value} {u v r:Value} (hx:ρ x=u) (hy:ρ y=v) {w w':World} (h:(Builtin.copy_ #[t,t2] o.type #[u,v]).run Tryz.prog w=.ok r w'):(execOp ρ o).run Tryz.prog w=.ok (.value r) w':=by
  unfold execOp;rw [ho]
  simp [resolve,invoke,builtin,hx,hy,h,Result.andThen]
theorem Aa3 {w:World} {g v d p:Nat} {M:MemM} (h:MemP w g v d p M) (at_ n:Int) (ha:ED at_) (hn:ED n) (hi:inM M at_ n=false) :
    Calls Tryz.prog 65 #[π g,ν at_,ν n] w fun e w'=>e=.returned (.tuple #[.slice none 0 0,ν 1])∧w=w':=by
  refine (Mw h at_ n ha hn).mono fun e w' q=>?_
  unfold KQ at q
  rw [hi] at q
  exact q
theorem YB {w:World} {g v d p:Nat} {M:MemM} (h:MemP w g v d p M) (at_ n:Int) (ha:ED at_) (hn:ED n) (hi:inM M at_ n=true) {b0:List UInt8} (hb0:(M.V.drop at_.toNat).take n.toNat=b0) (hbl:(b0.length:Int)=n) :
    Calls Tryz.prog 65 #[π g,ν at_,ν n] w fun e w'=>∃ a c,e=.returned (.tuple #[.slice a b0.length c,ν 0])∧Ca w' w.heap.size a c b0∧Below w.heap.size w w':=by
  refine (Mw h at_ n ha hn).mono fun e w' q=>?_
  unfold KQ at q
  rw [if_pos hi,hb0,show n.toNat=b0.length by omega] at q
  exact q
theorem PS (args:Array Value) (w:World):(callFunc 65 args).run Tryz.prog w=.ok (.enter 65 args) w:=by
  have h:=Tryz.func65
  go_simp
theorem IZ (g:Nat) (w:World):(Instr.fieldAt 127 (π g) 0).run Tryz.prog w=.ok (π g) w:=rfl
theorem Mf (g:Nat) (w:World):(Instr.fieldAt 127 (π g) 1).run Tryz.prog w=.ok (.pointer (some ⟨g,1,none⟩)) w:=rfl
theorem Yy {w:World} {tg g lg v d p0 tc:Nat} {ta:Option Addr} {M:MemM} {P:List PtM} (hm:MemP w g v d p0 M) (hb:Blk w tg 70 (txC g lg ta P.length tc)) (hr:Fl w ta tc P) (hok:TxOk M P) (hM:M.V.length≤1048576) (at_ n:Int) (ha:ED at_) (hn:ED n) (hi:inM M at_ n=false):Calls Tryz.prog 35 #[π tg,ν at_,ν n] w fun e w'=>e=.returned (.tuple #[.slice none 0 0,ν 1])∧w=w':=by
  have HM:=hid hm;have HB0:=hid hb
  clear hm hb hr
  go_enter Tryz.func35,Tryz.ntmps35
  iterate 3 go_step
  refine AW (N:=71) (l:=[(0,π tg),(1,ν at_),(2,ν n)]) ⟨rfl,(by intro x hx;simp only [List.mem_cons,List.not_mem_nil,or_false] at hx;rcases hx with rfl | rfl | rfl<;>rfl),rfl⟩ fun a2 h1=>?_
  refine mv h1 rfl fun _ h3=>?_
  refine mv h3 rfl fun _ h5=>?_
  iterate 5 go_step
  refine mv h5 rfl fun _ h7=>?_
  refine wv h7 rfl rfl rfl rfl (π tg) (by unfold execOp;simp only [h7.ev 15 rfl];exact rfl) fun a10 h9=>?_
  refine wv h9 rfl rfl rfl rfl (π tg) (by unfold execOp;simp only [h9.ev 16 rfl];exact Ac (Ja (tg) _)) fun a12 h11=>?_
  refine wv h11 rfl rfl rfl rfl (π g) (by unfold execOp;simp only [h11.ev 17 rfl];exact Ac (GJ (HB0.out.cell (i:=0) (by show 0<3;omega)))) fun a14 h13=>?_
  refine mv h13 rfl fun _ h15=>?_
  refine mv h15 rfl fun _ h17=>?_
  refine AN h17 (wn rfl) rfl (by decide) (fr rfl) (fun args=>PS args _) rfl #[π g,ν at_,ν n] (by simp only [List.map_toArray,List.map_cons,List.map_nil,h17.ev 18 rfl,h17.ev 19 rfl,h17.ev 20 rfl]) (R:=fun v' w'=>v'=.tuple #[.slice none 0 0,ν 1]∧w=w') ((Aa3 HM.out at_ n ha hn hi).mono fun e w' q=>⟨_,q.1,rfl,q.2⟩) fun a20 v1 w1 r1 h19=>?_
  obtain ⟨rfl,rfl⟩:=r1
  refine mv h19 rfl fun _ h21=>?_
  refine wv h21 rfl rfl rfl rfl (.slice none 0 0) (by unfold execOp;simp only [h21.ev 14 rfl];exact rfl) fun a24 h23=>?_
  refine wv h23 rfl rfl rfl rfl (ν 1) (by unfold execOp;simp only [h23.ev 14 rfl];exact rfl) fun a26 h25=>?_
  refine mv h25 rfl fun _ h27=>?_
  refine mv h27 rfl fun _ h29=>?_
  refine h29.sk [9,8,7,6,0,1,2] rfl fun h31=>?_
  iterate 6 go_step
  refine mv h31 rfl fun _ h32=>?_
  refine wv h32 rfl rfl rfl rfl (.bool true) (by unfold execOp;simp only [h32.ev 24 rfl];exact Ac (QD _ _ _ _ _ (by rfl))) fun a35 h34=>?_
  refine h34.sk [25,9,8,7,6,0,1,2] rfl fun h36=>?_
  iterate 3 go_step
  refine wp_cond (t:=true) (h36.ev 25 rfl) ?_
  simp only [if_true]
  refine h36.sk [9,8,7,6,0,1,2] rfl fun h37=>?_
  iterate 2 go_step
  refine mv h37 rfl fun _ h38=>?_
  refine h38.sk [26,9,8,7,0,1,2] rfl fun h40=>?_
  refine mv h40 rfl fun _ h41=>?_
  refine h41.sk [6,26,9,8,0,1,2] rfl fun h43=>?_
  refine mv h43 rfl fun _ h44=>?_
  refine h44.sk [7,6,9,8,0,1,2] rfl fun h46=>?_
  iterate 4 go_step
  simp only [Exit.then,Exit.inBlock]
  exact bodyPost_ret (results_tmp2 rfl (h46.known (6,.slice none 0 0) (by simp)) (h46.known (7,ν 1) (by simp))) h46.defs ⟨rfl,rfl⟩
theorem VT {w:World} {tg g lg v d p0 tc:Nat} {ta:Option Addr} {M:MemM} {P:List PtM} (hm:MemP w g v d p0 M) (hb:Blk w tg 70 (txC g lg ta P.length tc)) (hr:Fl w ta tc P) (hok:TxOk M P) (hM:M.V.length≤1048576) (at_ n:Int) (ha:ED at_) (hn:ED n) (hi:inM M at_ n=true) {b0:List UInt8} (hb0:(M.V.drop at_.toNat).take n.toNat=b0) (hbl:(b0.length:Int)=n):Calls Tryz.prog 35 #[π tg,ν at_,ν n] w fun e w'=>∃ ba bc,e=.returned (.tuple #[.slice ba b0.length bc,ν 0])∧Ca w' w.heap.size ba bc (ovl at_ b0 P)∧Below w.heap.size w w':=by
  have HM:=hid hm;have HB0:=hid hb;have HR:=hid hr
  have hsz:=hok.n
  have hin:=of_decide_eq_true hi
  clear hm hb hr
  go_enter Tryz.func35,Tryz.ntmps35
  iterate 3 go_step
  refine AW (N:=71) (l:=[(0,π tg),(1,ν at_),(2,ν n)]) ⟨rfl,(by intro x hx;simp only [List.mem_cons,List.not_mem_nil,or_false] at hx;rcases hx with rfl | rfl | rfl<;>rfl),rfl⟩ fun a2 h1=>?_
  refine mv h1 rfl fun _ h3=>?_
  refine mv h3 rfl fun _ h5=>?_
  iterate 5 go_step
  refine mv h5 rfl fun _ h7=>?_
  refine wv h7 rfl rfl rfl rfl (π tg) (by unfold execOp;simp only [h7.ev 15 rfl];exact rfl) fun a10 h9=>?_
  refine wv h9 rfl rfl rfl rfl (π tg) (by unfold execOp;simp only [h9.ev 16 rfl];exact Ac (Ja (tg) _)) fun a12 h11=>?_
  refine wv h11 rfl rfl rfl rfl (π g) (by unfold execOp;simp only [h11.ev 17 rfl];exact Ac (GJ (HB0.out.cell (i:=0) (by show 0<3;omega)))) fun a14 h13=>?_
  refine mv h13 rfl fun _ h15=>?_
  refine mv h15 rfl fun _ h17=>?_
  refine AN h17 (wn rfl) rfl (by decide) (fr rfl) (fun args=>PS args _) rfl #[π g,ν at_,ν n] (by simp only [List.map_toArray,List.map_cons,List.map_nil,h17.ev 18 rfl,h17.ev 19 rfl,h17.ev 20 rfl]) (R:=fun v' w'=>∃ ba bc,v'=.tuple #[.slice ba b0.length bc,ν 0]∧Ca w' w.heap.size ba bc b0∧Below w.heap.size w w') ((YB HM.out at_ n ha hn hi hb0 hbl).mono fun e w' q=>by obtain ⟨x,y,q1,q2,q3⟩:=q;exact ⟨_,q1,x,y,rfl,q2,q3⟩) fun a20 v1 w1 r1 h19=>?_
  obtain ⟨ba,bc,rfl,o1,b1⟩:=r1
  have HO0:=hid o1;have HB1:=hid (HB0.out.mono b1);have HW0:=hid b1;clear o1 b1
  refine mv h19 rfl fun _ h21=>?_
  refine wv h21 rfl rfl rfl rfl (.slice ba b0.length bc) (by unfold execOp;simp only [h21.ev 14 rfl];exact rfl) fun a24 h23=>?_
  refine wv h23 rfl rfl rfl rfl (ν 0) (by unfold execOp;simp only [h23.ev 14 rfl];exact rfl) fun a26 h25=>?_
  refine mv h25 rfl fun _ h27=>?_
  refine mv h27 rfl fun _ h29=>?_
  refine h29.sk [9,8,7,6,0,1,2] rfl fun h31=>?_
  iterate 6 go_step
  refine mv h31 rfl fun _ h32=>?_
  refine wv h32 rfl rfl rfl rfl (.bool false) (by unfold execOp;simp only [h32.ev 24 rfl];exact Ac (QD _ _ _ _ _ (by rfl))) fun a35 h34=>?_
  refine h34.sk [25,9,8,7,6,0,1,2] rfl fun h36=>?_
  iterate 3 go_step
  refine wp_cond (t:=false) (h36.ev 25 rfl) ?_
  simp only [Bool.false_eq_true,if_false]
  refine h36.sk [9,8,7,6,0,1,2] rfl fun h37=>?_
  iterate 6 go_step
  refine mv h37 rfl fun _ h38=>?_
  refine wv h38 rfl rfl rfl rfl (π tg) (by unfold execOp;simp only [h38.ev 27 rfl];exact rfl) fun a41 h40=>?_
  refine wv h40 rfl rfl rfl rfl (.pointer (some ⟨tg,2,none⟩)) (by unfold execOp;simp only [h40.ev 28 rfl];exact Ac (Cu (tg) _)) fun a43 h42=>?_
  refine wv h42 rfl rfl rfl rfl (.slice ta P.length tc) (by unfold execOp;simp only [h42.ev 29 rfl];exact Ac (Du (HB1.out.cell (i:=2) (by show 2<3;omega)))) fun a45 h44=>?_
  refine wv h44 rfl rfl rfl rfl (ν (P.length:Int)) (Df rfl (h44.ev 30 rfl) _) fun a47 h46=>?_
  refine mv h46 rfl fun _ h48=>?_
  refine h48.sk [32,31,30,9,8,7,6,0,1,2] rfl fun h50=>?_
  iterate 4 go_step
  refine h50.sk [8,32,31,30,9,7,6,0,1,2] rfl fun h51=>?_
  refine wp_loop (I:=fun a' w'=>∃ (j:Nat) (eb:List UInt8),j≤P.length∧Kn 71 [(8,.slice ba b0.length bc),(32,ν (j:Int)),(31,ν (P.length:Int)),(30,.slice ta P.length tc),(9,ν 0),(7,ν 0),(6,.slice none 0 0),(0,π tg),(1,ν at_),(2,ν n)] a'∧eb=ovl at_ b0 (P.take j)∧Ca w' w.heap.size ba bc eb∧Below w.heap.size w w') (μ:=fun a' _=>P.length-(intOf (a'.eval (.tmp 32))).toNat) ⟨0,b0,Nat.zero_le _,h51,rfl,HO0.out,HW0.out⟩ ?_
  clear HO0 HW0 HB1 h51
  rintro aL aw ⟨j,eb,hj,hK,heb,ho,hb⟩
  have hel:eb.length=b0.length:=by rw [heb,GQ]
  have HO:=hid ho;have HB:=hid hb;have HEB:=hid heb;clear ho hb heb
  by_cases hlt:j<P.length
  · have hd0:decide ((j:Int)<(P.length:Int))=true:=decide_eq_true ω
    obtain ⟨pb,poff,ha0,hrg⟩:=MX (HR.out.mono HB.out) ω
    have hrg:=hrg j hlt;have hsp:=hok.i P[j] (List.getElem_mem hlt);obtain ⟨p,hp⟩:∃ p,p=P[j]:=⟨_,rfl⟩;rw [← hp] at hrg hsp;have HPJ:=hid hp;clear hp;obtain ⟨hp1,hp2,hp3⟩:=hsp
    iterate 3 go_step
    refine wv hK rfl rfl rfl rfl (.bool true) (by unfold execOp;simp only [hK.ev 32 rfl,hK.ev 31 rfl];exact Ac (IL _ _ _ _ _ hd0)) fun a53 h52=>?_
    iterate 4 go_step
    refine wp_cond (t:=true) (h52.ev 33 rfl) ?_
    simp only [if_true]
    refine h52.sk [8,32,31,30,9,7,6,0,1,2] rfl fun h54=>?_
    iterate 7 go_step
    refine wv h54 rfl rfl rfl rfl (.pointer (some ⟨pb,poff+j*2,none⟩)) (by unfold execOp;simp only [h54.ev 30 rfl,h54.ev 32 rfl];exact Ac (by rw [ha0];exact ixP pb poff _ tc j hlt _)) fun a56 h55=>?_
    refine wv h55 rfl rfl rfl rfl (ptV p) (by unfold execOp;simp only [h55.ev 34 rfl];exact Ac (run_loadAt_mid _ _ _ _ (ptC p) _ hrg υ127 rfl (by rw [Er];rfl))) fun a58 h57=>?_
    refine wv h57 rfl rfl rfl rfl (π aw.heap.size) (DN rfl _ aw) fun a60 h59=>?_
    obtain ⟨wp,hwp⟩:∃ x,x=aw.alloc (.cells (ptC ⟨0,[]⟩).toArray 127):=⟨_,rfl⟩
    obtain ⟨gp,hgp⟩:∃ x,x=aw.heap.size:=⟨_,rfl⟩
    have hk0:Blk wp gp 127 (ptC ⟨0,[]⟩):=by rw [hwp,hgp];exact AL rfl _ _
    have HOp:Hid (Ca wp w.heap.size ba bc eb):=hid (by rw [hwp];exact Own.alloc HO.out _)
    have HBp:Hid (Below w.heap.size w wp):=hid (by rw [hwp];exact DF HB.out _)
    have hgw:w.heap.size≤gp:=by rw [hgp];exact HB.out.size
    have hapart:(Value.slice ba eb.length bc).ownBlock≠some gp:=by rw [hgp];exact To HO.out
    rw [← hgp] at h59;rw [← hwp];clear hwp hgp
    refine FD h59 rfl rfl rfl gp 0 (h59.ev 11 rfl) (ptC p) (h59.ev 35 rfl) (by rw [Er];rfl) (FP _) hk0 (by show 0+2≤2;omega) fun a62 wq h61 kq gq=>?_
    rw [CE (by rfl)] at kq
    have HP:=hid kq;have HOq:Hid (Ca wq w.heap.size ba bc eb):=hid (GR HOp.out hk0 (by decide) (Turns.of_grown gq rfl));have HBq:Hid (Below w.heap.size w wq):=hid (AH HBp.out gq hgw HBp.out.size)
    clear kq gq hk0 HOp HBp
    refine h61.sk [11,8,32,31,30,9,7,6,0,1,2] rfl fun h63=>?_
    iterate 4 go_step
    have HPd:=hid (HP.out.mono (Below.refl _ _).drew);have HOd:Hid (Ca wq.drew w.heap.size ba bc eb):=hid (Own.mono HOq.out (Below.refl _ _).drew);have HBd:=hid HBq.out.drew
    obtain ⟨fq,hfr⟩:∃ x,x=max at_ p.at_:=⟨_,rfl⟩
    obtain ⟨to,hto⟩:∃ x,x=min (at_+n) (p.at_+(p.d.length:Int)):=⟨_,rfl⟩
    refine wp_region_held_drew (S:=fun w'=>Blk w' gp 127 (ptC p)) κ HPd.out (fun hS1=>?_)
    refine tkm hS1 h63 0 1 rfl rfl rfl rfl κ (fun _ _ _ _ h=>h) rfl (fun _=>rfl) rfl fun a65 h64=>?_
    refine tkf hS1 h64 1 11 rfl rfl rfl rfl κ (fun _ _ _ _ h=>h) rfl rfl rfl (fun w=>IZ _ w) fun a67 h66=>?_
    refine tkl hS1 h66 2 37 rfl rfl rfl rfl κ (fun _ _ _ _ h=>h) rfl rfl rfl (fun _ hSw=>(BN (hSw.cell (i:=0) (by show 0<2;omega)))) fun a69 h68=>?_
    refine Aj hS1 h68 3 rfl rfl (by decide) (fr rfl) κ κ κ (fun _ _ _ _ h=>h) (ν fq) (Or.inl ⟨Eq.refl true,fun w1 hSw=>(by show (execOp _ (⟨_,.call { callee:=.builtin .max,args:=#[(.tmp 36),(.tmp 38)],argTypes:=#[3,3] },_,_,_,_⟩:Oper)).run _ _=_;exact (by rw [hfr];exact Zs rfl (h68.ev 36 rfl) (h68.ev 38 rfl) _))⟩) fun a71 h70=>?_
    refine tkm hS1 h70 4 1 rfl rfl rfl rfl κ (fun _ _ _ _ h=>h) rfl (fun _=>rfl) rfl fun a73 h72=>?_
    refine tkm hS1 h72 5 2 rfl rfl rfl rfl κ (fun _ _ _ _ h=>h) rfl (fun _=>rfl) rfl fun a75 h74=>?_
    refine Aj hS1 h74 6 rfl rfl (by decide) (fr rfl) κ κ κ (fun _ _ _ _ h=>h) (ν (at_+n)) (Or.inl ⟨Eq.refl true,fun w1 hSw=>(by show (execOp _ (⟨_,.binOp .add 3 (.tmp 40) (.tmp 41) 3,_,_,_,_⟩:Oper)).run _ _=_;exact (by unfold execOp;simp only [h74.ev 40 rfl,h74.ev 41 rfl];exact Ac (Acj _ _ _ _ _ rfl ω ω _)))⟩) fun a77 h76=>?_
    refine tkf hS1 h76 7 11 rfl rfl rfl rfl κ (fun _ _ _ _ h=>h) rfl rfl rfl (fun w=>IZ _ w) fun a79 h78=>?_
    refine tkl hS1 h78 8 43 rfl rfl rfl rfl κ (fun _ _ _ _ h=>h) rfl rfl rfl (fun _ hSw=>(BN (hSw.cell (i:=0) (by show 0<2;omega)))) fun a81 h80=>?_
    refine tkf hS1 h80 9 11 rfl rfl rfl rfl κ (fun _ _ _ _ h=>h) rfl rfl rfl (fun w=>Mf _ w) fun a83 h82=>?_
    refine tkl hS1 h82 10 45 rfl rfl rfl rfl κ (fun _ _ _ _ h=>h) rfl rfl rfl (fun _ hSw=>(GK (hSw.cell (i:=1) (by show 1<2;omega)))) fun a85 h84=>?_
    refine Aj hS1 h84 11 rfl rfl (by decide) (fr rfl) κ κ κ (fun _ _ _ _ h=>h) (ν (p.d.length:Int)) (Or.inl ⟨Eq.refl true,fun w1 hSw=>(by show (execOp _ (⟨_,.call { callee:=.builtin .len,args:=#[(.tmp 46)],argTypes:=#[9] },_,_,_,_⟩:Oper)).run _ _=_;exact (BY rfl (h84.ev 46 rfl) _))⟩) fun a87 h86=>?_
    refine Aj hS1 h86 12 rfl rfl (by decide) (fr rfl) κ κ κ (fun _ _ _ _ h=>h) (ν (p.at_+(p.d.length:Int))) (Or.inl ⟨Eq.refl true,fun w1 hSw=>(by show (execOp _ (⟨_,.binOp .add 3 (.tmp 44) (.tmp 47) 3,_,_,_,_⟩:Oper)).run _ _=_;exact (by unfold execOp;simp only [h86.ev 44 rfl,h86.ev 47 rfl];exact Ac (Acj _ _ _ _ _ rfl ω ω _)))⟩) fun a89 h88=>?_
    refine Aj hS1 h88 13 rfl rfl (by decide) (fr rfl) κ κ κ (fun _ _ _ _ h=>h) (ν to) (Or.inl ⟨Eq.refl true,fun w1 hSw=>(by show (execOp _ (⟨_,.call { callee:=.builtin .min,args:=#[(.tmp 42),(.tmp 48)],argTypes:=#[3,3] },_,_,_,_⟩:Oper)).run _ _=_;exact (by rw [hto];exact Zt rfl (h88.ev 42 rfl) (h88.ev 48 rfl) _))⟩) fun a91 h90=>?_
    refine tkm hS1 h90 14 39 rfl rfl rfl rfl κ (fun _ _ _ _ h=>h) rfl (fun _=>rfl) rfl fun a93 h92=>?_
    refine tkm hS1 h92 15 49 rfl rfl rfl rfl κ (fun _ _ _ _ h=>h) rfl (fun _=>rfl) rfl fun a95 h94=>?_
    refine wpAnyH_done κ ?_ _
    refine h94.sk [13,12,11,8,32,31,30,9,7,6,0,1,2] rfl fun h96=>?_
    iterate 2 go_step
    by_cases hcc:fq<to
    · have hc0:decide (fq<to)=true:=decide_eq_true ω
      iterate 2 go_step
      refine mv h96 rfl fun _ h97=>?_
      refine mv h97 rfl fun _ h99=>?_
      refine wv h99 rfl rfl rfl rfl (.bool true) (by unfold execOp;simp only [h99.ev 50 rfl,h99.ev 51 rfl];exact Ac (IL _ _ _ _ _ hc0)) fun a102 h101=>?_
      refine h101.sk [52,13,12,11,8,32,31,30,9,7,6,0,1,2] rfl fun h103=>?_
      iterate 3 go_step
      refine wp_cond (t:=true) (h103.ev 52 rfl) ?_
      simp only [if_true]
      refine h103.sk [13,12,11,8,32,31,30,9,7,6,0,1,2] rfl fun h104=>?_
      obtain ⟨lo,hlo⟩:∃ x:Nat,fq-at_=(x:Int):=⟨(fq-at_).toNat,ω⟩
      obtain ⟨hi2,hhi⟩:∃ x:Nat,to-at_=(x:Int):=⟨(to-at_).toNat,ω⟩
      obtain ⟨sk,hsk⟩:∃ x:Nat,fq-p.at_=(x:Int):=⟨(fq-p.at_).toNat,ω⟩
      have HPe:=hid (HPd.out.mono (Below.refl _ _).drew);have HOe:Hid (Ca wq.drew.drew w.heap.size ba bc eb):=hid (Own.mono HOd.out (Below.refl _ _).drew);have HBe:=hid HBd.out.drew
      obtain ⟨bg,hbg,hgB,hsl,hcp⟩:=Wn HOe.out lo hi2 ω ω
      have hne:gp≠bg:=by intro e;apply hapart;rw [hbg,e];rfl
      obtain ⟨wc,r1,r2,r3⟩:=hcp wq.drew.drew (p.d.drop sk) 3 HOe.out (by rw [List.length_drop];omega)
      have HPc:=hid (HPe.out.grownS r3 hne);have HOc:=hid r2;have HBc:Hid (Below w.heap.size w wc):=hid (AH HBe.out r3 hgB HBe.out.size);rw [hel] at hsl
      refine wp_region_held_drew (S:=fun w'=>Blk w' gp 127 (ptC p)) κ HPe.out (fun hS2=>?_)
      refine tkm hS2 h104 0 8 rfl rfl rfl rfl κ (fun _ _ _ _ h=>h) rfl (fun _=>rfl) rfl fun a106 h105=>?_
      refine tkm hS2 h105 1 12 rfl rfl rfl rfl κ (fun _ _ _ _ h=>h) rfl (fun _=>rfl) rfl fun a108 h107=>?_
      refine tkm hS2 h107 2 1 rfl rfl rfl rfl κ (fun _ _ _ _ h=>h) rfl (fun _=>rfl) rfl fun a110 h109=>?_
      refine Aj hS2 h109 3 rfl rfl (by decide) (fr rfl) κ κ κ (fun _ _ _ _ h=>h) (ν (lo:Int)) (Or.inl ⟨Eq.refl true,fun w1 hSw=>(by show (execOp _ (⟨_,.binOp .sub 3 (.tmp 54) (.tmp 55) 3,_,_,_,_⟩:Oper)).run _ _=_;exact (by unfold execOp;simp only [h109.ev 54 rfl,h109.ev 55 rfl];exact Ac (EX _ _ _ _ _ hlo ω ω _)))⟩) fun a112 h111=>?_
      refine tkm hS2 h111 4 13 rfl rfl rfl rfl κ (fun _ _ _ _ h=>h) rfl (fun _=>rfl) rfl fun a114 h113=>?_
      refine tkm hS2 h113 5 1 rfl rfl rfl rfl κ (fun _ _ _ _ h=>h) rfl (fun _=>rfl) rfl fun a116 h115=>?_
      refine Aj hS2 h115 6 rfl rfl (by decide) (fr rfl) κ κ κ (fun _ _ _ _ h=>h) (ν (hi2:Int)) (Or.inl ⟨Eq.refl true,fun w1 hSw=>(by show (execOp _ (⟨_,.binOp .sub 3 (.tmp 57) (.tmp 58) 3,_,_,_,_⟩:Oper)).run _ _=_;exact (by unfold execOp;simp only [h115.ev 57 rfl,h115.ev 58 rfl];exact Ac (EX _ _ _ _ _ hhi ω ω _)))⟩) fun a118 h117=>?_
      refine Aj hS2 h117 7 rfl rfl (by decide) (fr rfl) κ κ κ (fun _ _ _ _ h=>h) (.slice (some ⟨bg,lo,none⟩) (hi2-lo) (bc-lo)) (Or.inl ⟨Eq.refl true,fun w1 hSw=>(by show (execOp _ (⟨_,.slice 74 (.tmp 53) (some (.tmp 56)) (some (.tmp 59)) none,_,_,_,_⟩:Oper)).run _ _=_;exact (by unfold execOp;simp only [Option.map_some,Option.map_none,h117.ev 53 rfl,h117.ev 56 rfl,h117.ev 59 rfl];exact Ac (hsl _)))⟩) fun a120 h119=>?_
      refine tkf hS2 h119 8 11 rfl rfl rfl rfl κ (fun _ _ _ _ h=>h) rfl rfl rfl (fun w=>Mf _ w) fun a122 h121=>?_
      refine tkl hS2 h121 9 61 rfl rfl rfl rfl κ (fun _ _ _ _ h=>h) rfl rfl rfl (fun _ hSw=>(GK (hSw.cell (i:=1) (by show 1<2;omega)))) fun a124 h123=>?_
      refine tkm hS2 h123 10 12 rfl rfl rfl rfl κ (fun _ _ _ _ h=>h) rfl (fun _=>rfl) rfl fun a126 h125=>?_
      refine tkf hS2 h125 11 11 rfl rfl rfl rfl κ (fun _ _ _ _ h=>h) rfl rfl rfl (fun w=>IZ _ w) fun a128 h127=>?_
      refine tkl hS2 h127 12 64 rfl rfl rfl rfl κ (fun _ _ _ _ h=>h) rfl rfl rfl (fun _ hSw=>(BN (hSw.cell (i:=0) (by show 0<2;omega)))) fun a130 h129=>?_
      refine Aj hS2 h129 13 rfl rfl (by decide) (fr rfl) κ κ κ (fun _ _ _ _ h=>h) (ν (sk:Int)) (Or.inl ⟨Eq.refl true,fun w1 hSw=>(by show (execOp _ (⟨_,.binOp .sub 3 (.tmp 63) (.tmp 65) 3,_,_,_,_⟩:Oper)).run _ _=_;exact (by unfold execOp;simp only [h129.ev 63 rfl,h129.ev 65 rfl];exact Ac (EX _ _ _ _ _ hsk ω ω _)))⟩) fun a132 h131=>?_
      refine Aj hS2 h131 14 rfl rfl (by decide) (fr rfl) κ κ κ (fun _ _ _ _ h=>h) (Aq (p.d.drop sk)) (Or.inl ⟨Eq.refl true,fun w1 hSw=>(by show (execOp _ (⟨_,.slice 9 (.tmp 62) (some (.tmp 66)) none none,_,_,_,_⟩:Oper)).run _ _=_;exact (by unfold execOp;simp only [Option.map_some,Option.map_none,h131.ev 62 rfl,h131.ev 66 rfl];exact Ac (Ago p.d sk ω _)))⟩) fun a134 h133=>?_
      refine AE 15 rfl rfl κ fun KK hK=>Ds (w':=wc) h133 rfl (by decide) (fr rfl) (goInt (hi2-lo:Nat)) (by show (execOp _ (⟨_,.call { callee:=.builtin .copy,args:=#[(.tmp 60),(.tmp 67)],argTypes:=#[74,9] },_,_,_,_⟩:Oper)).run _ _=_;exact (TG rfl (h133.ev 60 rfl) (h133.ev 67 rfl) r1)) fun a136 h135=>hK _ _ (HPc.out) fun hS3=>?_
      clear hK KK
      refine wpAnyH_done κ ?_ _
      refine h135.sk [13,12,11,8,32,31,30,9,7,6,0,1,2] rfl fun h137=>?_
      iterate 3 go_step
      refine wv h137 rfl rfl rfl rfl (ν ((j+1:Nat):Int)) (by unfold execOp;simp only [h137.ev 32 rfl];exact Ac (LN _ _ j ω _)) fun a139 h138=>?_
      refine h138.sk [69,13,12,11,8,31,30,9,7,6,0,1,2] rfl fun h140=>?_
      refine mv h140 rfl fun _ h141=>?_
      refine h141.sk [32,13,12,11,8,31,30,9,7,6,0,1,2] rfl fun h143=>?_
      iterate 2 go_step
      refine ⟨⟨j+1,JT at_ eb p,ω,by exact h143.subs rfl,?_,?_,HBc.out⟩,?_⟩
      · rw [QP hlt,← HEB.out,← HPJ.out]
      · rw [← YW (fr:=fq) (to:=to) hfr (by rw [hto,hel,hbl]) hcc,hlo,hsk,Int.toNat_natCast,Int.toNat_natCast,show (to-fq).toNat=hi2-lo by omega];exact HOc.out
      · rw [h143.ev 32 rfl,hK.ev 32 rfl];simp [intOf];omega
    · have hc0:decide (fq<to)=false:=decide_eq_false ω
      iterate 2 go_step
      refine mv h96 rfl fun _ h144=>?_
      refine mv h144 rfl fun _ h146=>?_
      refine wv h146 rfl rfl rfl rfl (.bool false) (by unfold execOp;simp only [h146.ev 50 rfl,h146.ev 51 rfl];exact Ac (IL _ _ _ _ _ hc0)) fun a149 h148=>?_
      refine h148.sk [52,13,12,11,8,32,31,30,9,7,6,0,1,2] rfl fun h150=>?_
      iterate 3 go_step
      refine wp_cond (t:=false) (h150.ev 52 rfl) ?_
      simp only [Bool.false_eq_true,if_false]
      refine h150.sk [13,12,11,8,32,31,30,9,7,6,0,1,2] rfl fun h151=>?_
      iterate 4 go_step
      refine wv h151 rfl rfl rfl rfl (ν ((j+1:Nat):Int)) (by unfold execOp;simp only [h151.ev 32 rfl];exact Ac (LN _ _ j ω _)) fun a153 h152=>?_
      refine h152.sk [69,13,12,11,8,31,30,9,7,6,0,1,2] rfl fun h154=>?_
      refine mv h154 rfl fun _ h155=>?_
      refine h155.sk [32,13,12,11,8,31,30,9,7,6,0,1,2] rfl fun h157=>?_
      iterate 2 go_step
      refine ⟨⟨j+1,JT at_ eb p,ω,by exact h157.subs rfl,?_,?_,HBd.out⟩,?_⟩
      · rw [QP hlt,← HEB.out,← HPJ.out]
      · rw [YX (fr:=fq) (to:=to) hfr (by rw [hto,hel,hbl]) hcc];exact HOd.out
      · rw [h157.ev 32 rfl,hK.ev 32 rfl];simp [intOf];omega
  · have hd0:decide ((j:Int)<(P.length:Int))=false:=decide_eq_false ω
    obtain rfl:j=P.length:=ω
    iterate 3 go_step
    refine wv hK rfl rfl rfl rfl (.bool false) (by unfold execOp;simp only [hK.ev 32 rfl,hK.ev 31 rfl];exact Ac (IL _ _ _ _ _ hd0)) fun a159 h158=>?_
    iterate 4 go_step
    refine wp_cond (t:=false) (h158.ev 33 rfl) ?_
    simp only [Bool.false_eq_true,if_false]
    refine h158.sk [8,32,31,30,9,7,6,0,1,2] rfl fun h160=>?_
    iterate 7 go_step
    refine mv h160 rfl fun _ h161=>?_
    refine h161.sk [70,8,32,31,30,9,7,0,1,2] rfl fun h163=>?_
    refine mv h163 rfl fun _ h164=>?_
    refine h164.sk [6,70,8,32,31,30,9,0,1,2] rfl fun h166=>?_
    refine mv h166 rfl fun _ h167=>?_
    refine h167.sk [7,6,8,32,31,30,9,0,1,2] rfl fun h169=>?_
    iterate 4 go_step
    rw [List.take_length] at HEB
    exact bodyPost_ret (results_tmp2 rfl (h169.known (6,.slice ba b0.length bc) (by simp)) (h169.known (7,ν 0) (by simp))) h169.defs ⟨ba,bc,rfl,by have z:=HO.out;rw [HEB.out] at z;exact z,HB.out⟩
end
section
structure VolK where
  tg:Nat
  lg:Nat
  g:Nat
  v:Nat
  d:Nat
  p:Nat
def VolK.has (K:VolK) (b:Nat):Prop:=b=K.tg∨b=K.lg∨b=K.g∨b=K.v∨b=K.d∨b=K.p
structure VolP (w:World) (K:VolK) (ta:Option Addr) (tc:Nat) (M:MemM) (P:List PtM):Prop where
  l:LogP w K.lg K.g K.v K.d K.p 2688 4096 M
  b:Blk w K.tg 70 (txC K.g K.lg ta P.length tc)
  o:BG w (K.tg+1) ta tc P
  k:TxOk M P
  m:M.V.length=23168
  lt:K.lg<K.tg∧K.g<K.tg∧K.v<K.tg∧K.d<K.tg∧K.p<K.tg
theorem VolP.ok {w:World} {K:VolK} {ta:Option Addr} {tc:Nat} {M:MemM} {P:List PtM} (h:VolP w K ta tc M P):LogOk 2688 4096 M:=⟨ω,ω,by have:=h.m;omega,by have:=h.m;omega⟩
def txP (K:VolK) (ta:Option Addr) (tc:Nat) (M:MemM) (P:List PtM):Ch where
  F b:=K.has b∨obA ta=some b
  P w:=VolP w K ta tc M P
  keep {w w'} h t:=by
    have hK:∀ b,K.has b→¬ ¬ (K.has b∨obA ta=some b):=fun b hb q=>q (.inl hb)
    refine ⟨Et h.l t (hK _ (.inr (.inl rfl))) (hK _ (.inr (.inr (.inl rfl)))) (hK _ (.inr (.inr (.inr (.inl rfl))))) (hK _ (.inr (.inr (.inr (.inr (.inl rfl)))))) (hK _ (.inr (.inr (.inr (.inr (.inr rfl)))))),t.blk h.b (hK _ (.inl rfl)),?_,h.k,h.m,h.lt⟩
    exact (BQ _ _ _ _ _ _ _).keep (w:=w) h.o (t.mono' fun b _ q r=>q (.inr (by rw [← Fi ta P.length tc];exact r)))
  lt {w} h b hb:=by
    obtain ⟨h1,h2,h3,h4,h5⟩:=h.l.lt
    rcases hb with hb | hb
    · rcases hb with e | e | e | e | e | e
      · rw [e];exact h.b.lt
      all_goals omega
    · exact (World.ownsRow.lt h.o b (by rw [Fi];exact hb)).2
abbrev Fv (M:MemM) (P:List PtM) (at_ n:Int):List UInt8:=ovl at_ ((M.V.drop at_.toNat).take n.toNat) P
theorem Nc {M:MemM} {P:List PtM} {at_ n:Int} (hi:inM M at_ n=true):(Fv M P at_ n).length=n.toNat:=(GQ _ _ _).trans (PY rfl hi)
section
variable {w:World} {R:List Ch} {K:VolK} {ta:Option Addr} {tc:Nat} {M:MemM} {P:List PtM}
theorem SV (hS:Sep w (txP K ta tc M P::R)) {at_ n:Int} (hi:inM M at_ n=true) (ha:Hu at_) (hn:Hu n) :
    CallsR Tryz.prog 35 #[pG K.tg,ν at_,ν n] w (fun x w'=>∃ a c,x=.tuple #[.slice a (Fv M P at_ n).length c,ν 0]∧Sep w' (BQ 0 5 1 a (Fv M P at_ n).length c ((Fv M P at_ n).map Af)::txP K ta tc M P::R)):=by
  have h:VolP w K ta tc M P:=hS.get 0 rfl
  have hm:=h.m
  have hb:(((M.V.drop at_.toNat).take n.toNat).length:Int)=n:=by
    rw [PY (M:=M) rfl hi]
    unfold inM at hi;have:=of_decide_eq_true hi;omega
  refine Calls.mono (VT h.l.m h.b h.o.row h.k ω at_ n ha hn hi rfl hb) fun e w' ⟨ba,bc,e1,o,b⟩=>⟨_,e1,ba,bc,by rw [GQ],?_⟩
  rw [GQ]
  exact hS.push b (c:=BQ 0 5 1 ba _ bc _) (by have z:=Own.low o (Nat.zero_le _);rw [GQ] at z;exact z) fun k hk=>(World.ownsRow.lt o k (by rw [GQ];exact hk)).1
theorem Yz (hS:Sep w (txP K ta tc M P::R)) {at_ n:Int} (hi:inM M at_ n=false) (ha:Hu at_) (hn:Hu n) :
    CallsR Tryz.prog 35 #[pG K.tg,ν at_,ν n] w (fun x w'=>x=.tuple #[.slice none 0 0,ν 1]∧Sep w' (txP K ta tc M P::R)):=by
  have h:VolP w K ta tc M P:=hS.get 0 rfl
  have hm:=h.m
  exact Calls.mono (Yy h.l.m h.b h.o.row h.k ω at_ n ha hn hi) fun e w' ⟨e1,e2⟩=>⟨_,e1,rfl,e2 ▸ hS⟩
theorem UX (hS:Sep w (txP K ta tc M P::R)) {at_:Int} {a:Option Addr} {c:Nat} {xs:List UInt8} (hr:Bp w a c xs) (ha:Hu at_) (hx:xs.length≤1000000) :
    CallsR Tryz.prog 75 #[pG K.tg,ν at_,.slice a xs.length c] w (fun x w'=>∃ ta' tc',x=ν (ND M P at_ xs.length)∧Sep w' (txP K ta' tc' M (Lw M P at_ xs)::R)):=by
  have h:VolP w K ta tc M P:=hS.get 0 rfl
  have hm:=h.m
  have hlt:=h.lt
  refine Calls.mono (RC h.l.m h.b h.o (B:=K.tg+1) (by have:=h.b.lt;omega) ω ω hr ha h.k.n ω) fun e w' ⟨e1,ta',tc',hb,ho,t,wh⟩=>⟨_,e1,ta',tc',rfl,?_⟩
  have hob:∀ b,obA ta=some b→K.tg+1≤b:=YY h.o
  have nX:∀ k,k<K.tg→¬ (k=K.tg∨some k=obA ta):=fun k hk q=>q.elim (fun q=>ω) (fun q=>by have:=hob _ q.symm;omega)
  have hl:LogP w' K.lg K.g K.v K.d K.p 2688 4096 M:=Et h.l t (nX _ hlt.1) (nX _ hlt.2.1) (nX _ hlt.2.2.1) (nX _ hlt.2.2.2.1) (nX _ hlt.2.2.2.2)
  refine hS.head t (fun k _ q=>?_) (c':=txP K ta' tc' M _) ⟨hl,hb,ho,h.k.put at_ xs,h.m,h.lt⟩ fun k q=>?_
  · rcases q with q | q
    · exact .inl (.inl q)
    · exact .inr q.symm
  · rcases q with q | q
    · exact .inl (.inl q)
    · rcases wh with e | ⟨b,e,hb⟩
      · exact .inl (.inr (e ▸ q))
      · rw [e] at q;cases q;exact .inr hb
def cmE (M:MemM) (P:List PtM):Int:=if P=[] then 0 else El M 2688 4096 P
def cmM (M:MemM) (P:List PtM):MemM:=if P=[] then M else if El M 2688 4096 P=0 then Fu (DT M 2688 4096 P) 2688 4096 else M
def cmP (M:MemM) (P:List PtM):List PtM:=if P=[] then [] else if El M 2688 4096 P=0 then [] else P
theorem Aah:(cmM M P).V.length=M.V.length:=by
  unfold cmM;split
  · rfl
  · split
    · rw [KL,Jv]
    · rfl
theorem XC (hS:Sep w (txP K ta tc M P::R)) :
    CallsR Tryz.prog 12 #[pG K.tg] w (fun x w'=>∃ ta' tc',x=ν (cmE M P)∧Sep w' (txP K ta' tc' (cmM M P) (cmP M P)::R)):=by
  have h:VolP w K ta tc M P:=hS.get 0 rfl
  have hm:=h.m
  have hlt:=h.lt
  obtain ⟨lt1,lt2,lt3,lt4,lt5⟩:=hlt
  have hob:∀ b,obA ta=some b→K.tg+1≤b:=YY h.o
  by_cases h0:P=[]
  · refine Calls.mono (PW h.b h0) fun e w' ⟨e1,hb,t⟩=>⟨_,e1,ta,tc,by unfold cmE;rw [if_pos h0],?_⟩
    have eM:cmM M P=M:=by unfold cmM;rw [if_pos h0]
    have eP:cmP M P=P:=by unfold cmP;rw [if_pos h0,h0]
    rw [eM,eP]
    refine hS.head t (fun k _ q=>.inl (.inl q)) (c':=txP K ta tc M P) ⟨Et h.l t ω ω ω ω ω,hb,t.own h.o (fun k q=>ω),h.k,h.m,h.lt⟩ fun k q=>.inl q
  · have okp:=(h.k.pts ω).1
    by_cases hE:El M 2688 4096 P=0
    · refine Calls.mono (Sg (B:=0) h.l h.ok h.b h.o.row ω ω ω ω ω h.k.n okp h0 hE) fun e w' ⟨e1,hl,hb,t⟩=>⟨_,e1,none,0,by unfold cmE;rw [if_neg h0,hE],?_⟩
      have eM:cmM M P=Fu (DT M 2688 4096 P) 2688 4096:=by unfold cmM;rw [if_neg h0,if_pos hE]
      have eP:cmP M P=[]:=by unfold cmP;rw [if_neg h0,if_pos hE]
      rw [eP]
      refine hS.head t (fun k _ q=>?_) (c':=txP K none 0 (cmM M P) []) ⟨by rw [eM];exact hl,hb,Own.nil _ _ _ _,TxOk.nil _,Aah.trans h.m,h.lt⟩ fun k q=>?_
      · rcases q with (q | q | q) | q
        · exact .inl (.inr (.inr (.inr (.inl q))))
        · exact .inl (.inr (.inr (.inr (.inr (.inl q)))))
        · exact .inl (.inr (.inr (.inr (.inr (.inr q)))))
        · exact .inl (.inl q)
      · rcases q with q | q
        · exact .inl (.inl q)
        · cases q
    · refine Calls.mono (PV (B:=0) h.l h.ok h.b h.o.row ω ω ω ω ω h.k.n okp h0 hE) fun e w' ⟨e1,hl,hb,t⟩=>⟨_,e1,ta,tc,by unfold cmE;rw [if_neg h0],?_⟩
      have eM:cmM M P=M:=by unfold cmM;rw [if_neg h0,if_neg hE]
      have eP:cmP M P=P:=by unfold cmP;rw [if_neg h0,if_neg hE]
      rw [eM,eP]
      rw [Xn hE] at hl
      refine hS.head t (fun k _ q=>?_) (c':=txP K ta tc M P) ⟨hl,hb,t.own h.o (fun k q=>by rcases q with q | q | q<;>omega),h.k,h.m,h.lt⟩ fun k q=>.inl q
      rcases q with q | q | q
      · exact .inl (.inr (.inr (.inr (.inl q))))
      · exact .inl (.inr (.inr (.inr (.inr (.inl q)))))
      · exact .inl (.inr (.inr (.inr (.inr (.inr q)))))
theorem XK (hS:Sep w (txP K ta tc M P::R)) :
    CallsR Tryz.prog 10 #[pG K.tg] w (fun x w'=>∃ y,x=y∧Sep w' (txP K none 0 M []::R)):=by
  have h:VolP w K ta tc M P:=hS.get 0 rfl
  obtain ⟨lt1,lt2,lt3,lt4,lt5⟩:=h.lt
  refine Calls.mono (Qc h.b) fun e w' ⟨⟨x,e1⟩,hb,t⟩=>⟨x,e1,x,rfl,?_⟩
  refine hS.head t (fun k _ q=>.inl (.inl q)) (c':=txP K none 0 M []) ⟨Et h.l t ω ω ω ω ω,hb,Own.nil _ _ _ _,TxOk.nil _,h.m,h.lt⟩ fun k q=>?_
  rcases q with q | q
  · exact .inl (.inl q)
  · cases q
end
end
section
open Go.RowKit Go.WideShapes
structure InoT where
  k:Int
  l:Int
  s:Int
  b0:Int
  b1:Int
  b2:Int
  b3:Int
  o0:Int
  o1:Int
  o2:Int
  o3:Int
  o4:Int
  o5:Int
  o6:Int
  o7:Int
def InoT.B (i:InoT):List Int:=[i.b0,i.b1,i.b2,i.b3]
def InoT.O (i:InoT):List Int:=[i.o0,i.o1,i.o2,i.o3,i.o4,i.o5,i.o6,i.o7]
def Ao (i:InoT):List Value:=[ν i.k,ν i.l,ν i.s,ν i.b0,ν i.b1,ν i.b2,ν i.b3,ν i.o0,ν i.o1,ν i.o2,ν i.o3,ν i.o4,ν i.o5,ν i.o6,ν i.o7]
def Gc (i:InoT):Value:=.agg (Ao i).toArray
def AR (n:Int):Int:=if n<1 then 0 else (n-1) / 64+1
theorem Wh (n:Int) (w:World) (hn:-9223372036854775808≤n) (hn9:n≤9223372036854775807) :
    Calls Tryz.prog 17 #[ν n] w fun e w'=>e=.returned (ν (AR n))∧w=w':=by
  by_cases h:n<1
  · have hf:AR n=0:=by unfold AR;rw [if_pos h]
    rw [hf]
    have d:decide (n<1)=true:=decide_eq_true h
    clear hf h
    go_enter Tryz.func17,Tryz.ntmps17
    go_wp2_with fail
    go_ret
    exact ⟨rfl,rfl⟩
  · have hf:AR n=(n-1) / 64+1:=by unfold AR;rw [if_neg h]
    rw [hf]
    have d:decide (n<1)=false:=decide_eq_false h
    have e1:IntKind.i64.wrap (n-1)=n-1:=IntWalk.i64_in _ ω
    have e2:(n-1).tdiv 64=(n-1) / 64:=Int.tdiv_eq_ediv_of_nonneg ω
    have e3:IntKind.i64.wrap ((n-1) / 64)=(n-1) / 64:=IntWalk.i64_in _ ω
    have e4:IntKind.i64.wrap ((n-1) / 64+1)=(n-1) / 64+1:=IntWalk.i64_in _ ω
    generalize (n-1) / 64=q at *
    clear hf h
    go_enter Tryz.func17,Tryz.ntmps17
    go_wp2_with fail
    go_ret
    exact ⟨rfl,rfl⟩
theorem Cz (n:Int) (w:World):Calls Tryz.prog 159 #[ν n] w fun e w'=>e=.returned (.bool (decide (0≤n∧n≤128)))∧w=w':=by
  by_cases h:0≤n
  · by_cases h2:n≤128
    · have hd:decide (0≤n∧n≤128)=true:=decide_eq_true ⟨h,h2⟩
      rw [hd]
      have d1:decide (0≤n)=true:=decide_eq_true h
      have d2:decide (n≤128)=true:=decide_eq_true h2
      clear hd h h2
      go_enter Tryz.func159,Tryz.ntmps159
      go_wp2_with fail
      go_ret
      exact ⟨rfl,rfl⟩
    · have hd:decide (0≤n∧n≤128)=false:=decide_eq_false (fun hh=>h2 hh.2)
      rw [hd]
      have d1:decide (0≤n)=true:=decide_eq_true h
      have d2:decide (n≤128)=false:=decide_eq_false h2
      clear hd h h2
      go_enter Tryz.func159,Tryz.ntmps159
      go_wp2_with fail
      go_ret
      exact ⟨rfl,rfl⟩
  · have hd:decide (0≤n∧n≤128)=false:=decide_eq_false (fun hh=>h hh.1)
    rw [hd]
    have d1:decide (0≤n)=false:=decide_eq_false h
    clear hd h
    go_enter Tryz.func159,Tryz.ntmps159
    go_wp2_with fail
    go_ret
    exact ⟨rfl,rfl⟩
def Ahz (l:List Int):Int:=l.foldl (fun a o=>IntKind.i64.wrap (a+o)) 0
def Aia (i:InoT):Int:=Ahz i.O
end
section
def InoT.blk (x:InoT) (k:Nat):Int:=[x.b0,x.b1,x.b2,x.b3].getD k 0
def InoT.opn (x:InoT) (k:Nat):Int:=[x.o0,x.o1,x.o2,x.o3,x.o4,x.o5,x.o6,x.o7].getD k 0
def okB (j n s:Int):Bool:=(decide (j<s) == (n != 0))&&decide (0≤n∧n≤128)
def okO (n:Int):Bool:=decide (0≤n∧n≤8)
def Fp (l s:Int):Bool:=decide (0≤l∧l≤20∧0≤s∧s≤256)
def KW (i:InoT):Bool:=okB 0 i.b0 i.s&&okB 64 i.b1 i.s&&okB 128 i.b2 i.s&&okB 192 i.b3 i.s
def Mh (i:InoT):Bool:=okO i.o0&&okO i.o1&&okO i.o2&&okO i.o3&&okO i.o4&&okO i.o5&&okO i.o6&&okO i.o7
def Do (i:InoT):Bool:=Fp i.l i.s&&KW i&&Mh i
theorem MS {N:Nat} {l:List (Nat×Value)} {a:Act} (h:Kn N l a) {o:Oper} {T:TypeId} {x y:Operand} (ho:o.op=.index T x y) {v u:Value} (hx:opv l x=some v) (hy:opv l y=some u) {xs:List Int} (hv:v=.agg (xs.map iV).toArray) {n:Nat} (hu:Tryz.prog.underlying T=some (.array n 3)) (hnx:n=xs.length) {i:Int} {j:Nat} (hi:u=ν i) (hij:i=(j:Int)) (hj:j<xs.length) (w:World):(execOp a.eval o).run Tryz.prog w=.ok (.value (ν (xs.getD j 0))) w:=by
 subst hv hi hij
 unfold execOp;rw [ho];simp only [h.op hx,h.op hy]
 refine Ac ?_
 have hj':(j:Int)<xs.length:=ω
 subst hnx
 have s3:∀ w,(sizeOf 3).run Tryz.prog w=.ok 1 w:=fun w=>κ
 have a3:∀ w,(isAgg 3).run Tryz.prog w=.ok false w:=fun w=>κ
 simp [Instr.index,part,asIntOf,underlying,hu,Sem.run_bind,s3,a3,hj,iV,List.getD_eq_getElem?_getD]
def Qg (x:InoT) (k:Nat):Bool:=(List.range k).all fun j=>okB ((j:Int)*64) (x.blk j) x.s
def Qh (x:InoT) (k:Nat):Bool:=(List.range k).all fun j=>okO (x.opn j)
theorem Aas {x:InoT} {k:Nat} (h:Qg x k=true) (e:okB ((k:Int)*64) (x.blk k) x.s=true):Qg x (k+1)=true:=by
 unfold Qg at *;rw [List.range_succ,List.all_append,h];simp [e]
theorem Aat {x:InoT} {k:Nat} (h:Qh x k=true) (e:0≤x.opn k∧x.opn k≤8):Qh x (k+1)=true:=by
 unfold Qh at *;rw [List.range_succ,List.all_append,h];simp [okO,e]
theorem Af7 {j n s:Int} (h1:(decide (j<s) == decide (n≠0))=true) (h2:(decide (n≥0)&&decide (n≤128))=true):okB j n s=true:=by
 unfold okB;simp only [Bool.and_eq_true,decide_eq_true_eq] at h2 ⊢
 exact ⟨by by_cases q:n=0<;>by_cases q2:j<s<;>simp [q,q2] at h1 ⊢,h2⟩
theorem Ad9 {j n s:Int} (h1:(decide (j<s) == decide (n≠0))=false):okB j n s=false:=by
 unfold okB;by_cases q:n=0<;>by_cases q2:j<s<;>simp [q,q2] at h1 ⊢
theorem Aea {j n s:Int} (h2:(decide (n≥0)&&decide (n≤128))=false):okB j n s=false:=by
 unfold okB;rw [Bool.and_eq_false_iff] at h2 ⊢;refine .inr (decide_eq_false fun q=>?_)
 rcases h2 with h | h<;>(have:=dF h;omega)
theorem Aa5 {x:InoT} (h:x.l<0∨x.l>20∨x.s<0∨x.s>256):Do x=false:=by
 unfold Do Fp;rw [decide_eq_false ω];rfl
theorem UD {x:InoT} {k:Nat} (hk:k<4) (h:okB ((k:Int)*64) (x.blk k) x.s=false):Do x=false:=by
 unfold Do KW
 rcases (ω:k=0∨k=1∨k=2∨k=3) with rfl | rfl | rfl | rfl
 ·rw [show okB 0 x.b0 x.s=false from h];simp
 ·rw [show okB 64 x.b1 x.s=false from h];simp
 ·rw [show okB 128 x.b2 x.s=false from h];simp
 ·rw [show okB 192 x.b3 x.s=false from h];simp
theorem Aa6 {x:InoT} {k:Nat} (hk:k<8) (h:x.opn k<0∨x.opn k>8):Do x=false:=by
 have e:okO (x.opn k)=false:=decide_eq_false ω
 unfold Do Mh
 rcases (ω:k=0∨k=1∨k=2∨k=3∨k=4∨k=5∨k=6∨k=7) with rfl | rfl | rfl | rfl | rfl | rfl | rfl | rfl
 ·rw [show okO x.o0=false from e];simp
 ·rw [show okO x.o1=false from e];simp
 ·rw [show okO x.o2=false from e];simp
 ·rw [show okO x.o3=false from e];simp
 ·rw [show okO x.o4=false from e];simp
 ·rw [show okO x.o5=false from e];simp
 ·rw [show okO x.o6=false from e];simp
 ·rw [show okO x.o7=false from e];simp
theorem Aa7 {x:InoT} (h:0≤x.l∧x.l≤20∧0≤x.s∧x.s≤256) {k:Nat} (hk:k=4) (hf:Qg x k=true) {j:Nat} (hj:j=8) (hg:Qh x j=true):Do x=true:=by
 subst hk hj
 have f:∀ i:Nat,i<4→okB ((i:Int)*64) (x.blk i) x.s=true:=fun i hi=>List.all_eq_true.1 hf i (List.mem_range.2 hi)
 have g:∀ i:Nat,i<8→okO (x.opn i)=true:=fun i hi=>List.all_eq_true.1 hg i (List.mem_range.2 hi)
 unfold Do Fp KW Mh
 rw [decide_eq_true h,show okB 0 x.b0 x.s=true from f 0 (by decide),show okB 64 x.b1 x.s=true from f 1 (by decide),show okB 128 x.b2 x.s=true from f 2 (by decide),show okB 192 x.b3 x.s=true from f 3 (by decide),
  show okO x.o0=true from g 0 (by decide),show okO x.o1=true from g 1 (by decide),show okO x.o2=true from g 2 (by decide),show okO x.o3=true from g 3 (by decide),show okO x.o4=true from g 4 (by decide),show okO x.o5=true from g 5 (by decide),show okO x.o6=true from g 6 (by decide),show okO x.o7=true from g 7 (by decide)]
 rfl
theorem Tb {w:World} {R:List Ch} {n:Int} (hS0:Sep w ([]++R)) :
  CallsR Tryz.prog 159 #[ν n] w (fun v w'=>v=.bool (decide (n≥0)&&decide (n≤128))∧Sep w' ([]++R)):=by
 have hS:Sep w [Ch.many R]:=Sep.tail_many (xs:=[]) hS0;clear hS0
 refine AS Tryz.func159 rfl (N:=9) Tryz.ntmps159 (by show 1≤9;decide) [(0,ν n)] rfl fun _ h1=>sqr fun _ hK3=>mv h1 rfl fun _ h4=>wpList_nil<|hK3 _ _<|sqr fun _ hK6=>mv h4 rfl fun _ h7=>bv h7 (z:=.bool (decide (n≥0))) rfl (cGe _ _ _ _ rfl) fun _ h9=>mv h9 rfl fun _ h2=>sg h2 (wT h2 rfl rfl rfl) rfl rfl rfl (v:=ν n) (fun hC1=>Az h2 rfl rfl _) fun _ h3=>sg h3 (wT h3 rfl rfl rfl) rfl rfl rfl (v:=.bool (decide (n≤128))) (fun hC2=>BV h3 rfl (opg rfl hC2) rfl (cLe _ _ _ _ rfl) _) fun _ h5=>?_
 refine sv1 h5 rfl (v:=.bool ((decide (n≥0))&&(decide (n≤128)))) (EV h5 rfl (E:=(decide (n≥0))) (F:=(decide (n≤128))) rfl rfl rfl (fun e=>if_pos (by rw [e];try rfl))) fun _ h6=>h6.sk [8,7,6,5,4,3,0] rfl fun h8=>mv h8 rfl fun _ h10=>h10.sn [2,0] rfl fun h11=>hK6 _ _<|wp_ret ?_
 try simp only [Exit.then,Exit.inBlock]
 refine BF (v:=.bool ((decide (n≥0))&&(decide (n≤128)))) (Dt h11 rfl rfl) h11.defs ?_
 exact ⟨rfl,Sep.tail_un (xs:=[]) hS⟩
theorem VX {w:World} {R:List Ch} {x:InoT} (hS0:Sep w ([]++R)) :
  CallsR Tryz.prog 131 #[.agg (Ao x).toArray] w (fun v w'=>v=.bool (Do x)∧Sep w' ([]++R)):=by
 have hS:Sep w [Ch.many R]:=Sep.tail_many (xs:=[]) hS0;clear hS0
 refine AS Tryz.func131 rfl (N:=59) Tryz.ntmps131 (by show 1≤59;decide) [(0,.agg (Ao x).toArray)] rfl fun _ h1=>sqr fun _ hK3=>so (wn rfl) fun _ hK1=>Ju h1 rfl rfl rfl rfl rfl (z:=(Ao x)) rfl hS fun _ g4 w7 h5 s8 _ _=>hK1 _ _ ?_
 refine mv h5 rfl fun _ h2=>wpList_nil<|hK3 _ _<|sq fun _ hK2=>sqr fun _ hK4=>fav h2 rfl (fQ 1) fun _ h3=>ldv h3 s8 0 υ3 rfl rfl rfl rfl fun _ h4=>bv h4 (z:=.bool (decide (x.l<0))) rfl (cLt _ _ _ _ rfl) fun _ h6=>mv h6 rfl fun _ h7=>sg h7 (wF h7 rfl rfl rfl) rfl rfl rfl (v:=.pointer (some ⟨g4,1,none⟩)) (fun hC1=>rfa h7 rfl rfl (fQ 1) _) fun _ h8=>sg h8 (wF h8 rfl rfl rfl) rfl rfl rfl (v:=ν x.l) (fun hC2=>(rld h8 rfl (opg rfl hC2) (ldB υ3 rfl (s8.get 0 rfl:Blk _ _ _ _) rfl))) fun _ h9=>sg h9 (wF h9 rfl rfl rfl) rfl rfl rfl (v:=.bool (decide (x.l>20))) (fun hC3=>BV h9 rfl (opg rfl hC3) rfl (cGt _ _ _ _ rfl) _) fun _ h10=>?_
 refine sv1 h10 rfl (v:=.bool ((decide (x.l<0))||(decide (x.l>20)))) (Jo h10 rfl (E:=(decide (x.l<0))) (F:=(decide (x.l>20))) rfl rfl rfl (fun e=>if_pos (by rw [e];try rfl))) fun _ h11=>mv h11 rfl fun _ h12=>sg h12 (wF h12 rfl rfl rfl) rfl rfl rfl (v:=.pointer (some ⟨g4,2,none⟩)) (fun hC4=>rfa h12 rfl rfl (fQ 2) _) fun _ h13=>sg h13 (wF h13 rfl rfl rfl) rfl rfl rfl (v:=ν x.s) (fun hC5=>(rld h13 rfl (opg rfl hC5) (ldB υ3 rfl (s8.get 0 rfl:Blk _ _ _ _) rfl))) fun _ h14=>sg h14 (wF h14 rfl rfl rfl) rfl rfl rfl (v:=.bool (decide (x.s<0))) (fun hC6=>BV h14 rfl (opg rfl hC6) rfl (cLt _ _ _ _ rfl) _) fun _ h15=>sv1 h15 rfl (v:=.bool (((decide (x.l<0))||(decide (x.l>20)))||(decide (x.s<0)))) (Jo h15 rfl (E:=((decide (x.l<0))||(decide (x.l>20)))) (F:=(decide (x.s<0))) rfl rfl rfl (fun e=>if_pos (by rw [e];try rfl))) fun _ h16=>mv h16 rfl fun _ h17=>sg h17 (wF h17 rfl rfl rfl) rfl rfl rfl (v:=.pointer (some ⟨g4,2,none⟩)) (fun hC7=>rfa h17 rfl rfl (fQ 2) _) fun _ h18=>sg h18 (wF h18 rfl rfl rfl) rfl rfl rfl (v:=ν x.s) (fun hC8=>(rld h18 rfl (opg rfl hC8) (ldB υ3 rfl (s8.get 0 rfl:Blk _ _ _ _) rfl))) fun _ h19=>sg h19 (wF h19 rfl rfl rfl) rfl rfl rfl (v:=.bool (decide (x.s>256))) (fun hC9=>BV h19 rfl (opg rfl hC9) rfl (cGt _ _ _ _ rfl) _) fun _ h20=>?_
 refine sv1 h20 rfl (v:=.bool ((((decide (x.l<0))||(decide (x.l>20)))||(decide (x.s<0)))||(decide (x.s>256)))) (Jo h20 rfl (E:=(((decide (x.l<0))||(decide (x.l>20)))||(decide (x.s<0)))) (F:=(decide (x.s>256))) rfl rfl rfl (fun e=>if_pos (by rw [e];try rfl))) fun _ h21=>h21.sn [25,2,1,0] rfl fun h22=>hK4 _ _ ?_
 rcases bC ((((decide (x.l<0))||(decide (x.l>20)))||(decide (x.s<0)))||(decide (x.s>256))) with hc1 | hc1
 ·skip
  have hp1:(((x.l<0)∨(x.l>20))∨(x.s<0))∨(x.s>256):=((orT hc1).imp (fun q=>((orT q).imp (fun q=>((orT q).imp (fun q=>(dT q)) (fun q=>(dT q)))) (fun q=>(dT q)))) (fun q=>(dT q)))
  refine wcT h22 rfl hc1<|h22.sk [2,1,0] rfl fun h23=>sqr fun _ hK5=>h23.sk [1,0] rfl fun h24=>mv h24 rfl fun _ h25=>wpList_nil<|hK5 _ _<|wp_ret ?_
  try simp only [Exit.then,Exit.inBlock]
  refine BF (v:=.bool false) (Dt h25 rfl rfl) h25.defs ?_
  exact ⟨congrArg _ (Aa5 ω).symm,Sep.tail_un (xs:=[]) (s8.pk [1] rfl)⟩
 ·skip
  have hp2:(((¬ (x.l<0))∧(¬ (x.l>20)))∧(¬ (x.s<0)))∧(¬ (x.s>256)):=(And.intro (And.intro (And.intro (dF (orF (orF (orF hc1).1).1).1) (dF (orF (orF (orF hc1).1).1).2)) (dF (orF (orF hc1).1).2)) (dF (orF hc1).2))
  refine wcF h22 rfl hc1<|h22.sk [2,1,0] rfl fun h26=>wp_skip<|hK2 _ _<|sq fun _ hK6=>sqr fun _ hK7=>fav h26 rfl (fQ 3) fun _ h27=>sw1 h27 rfl (v:=.agg #[ν x.b0,ν x.b1,ν x.b2,ν x.b3]) (rld h27 rfl rfl (ldA υ42 rfl (n:=4) κ (s8.get 0 rfl:Blk _ _ _ _) rfl rfl)) fun _ h28=>mv h28 rfl fun _ h29=>h29.sn [28,27,2,1,0] rfl fun h30=>hK7 _ _<|wp_block ?_
  refine FC (fun (k:Nat) a' w'=>Kn 59 [(28,ν (k:Int)),(27,.agg #[ν x.b0,ν x.b1,ν x.b2,ν x.b3]),(2,.bool false),(1,π g4),(0,.agg (Ao x).toArray)] a'∧Sep w' [Ad g4 45 (Ao x),Ch.many R]∧(k≤4)∧(Qg x k=true)) (fun (k:Nat)=>4-k) 0 ⟨h30.subs rfl,s8,Nat.zero_le _,rfl⟩ ?_
  rintro k1 a1 w1 ⟨h31,s1,hk85,hf86⟩ K1 hK8
  refine sqr fun _ hK9=>bv h31 (z:=.bool (decide ((k1:Int)<4))) rfl (cLt _ _ _ _ rfl) fun _ h32=>wpList_nil<|hK9 _ _<|sq fun _ hK10=>?_
  rcases bC (decide ((k1:Int)<4)) with hc2 | hc2
  ·skip
   have hp3:(k1:Int)<4:=(dT hc2)
   refine wcT h32 rfl hc2<|h32.sk [28,27,2,1,0] rfl fun h33=>wp_skip<|hK10 _ _<|sq fun _ hK11=>wp_block ?_
   refine sqr fun _ hK12=>mv h33 rfl fun _ h34=>sv1 h34 rfl (v:=ν (x.blk k1)) (MS h34 rfl rfl rfl (xs:=[x.b0,x.b1,x.b2,x.b3]) rfl υ42 rfl rfl rfl (by show _<4;omega)) fun _ h35=>mvs 2 h35 rfl fun _ h36=>h36.sn [4,3,28,27,2,1,0] rfl fun h37=>hK12 _ _<|sqr fun _ hK13=>mv h37 rfl fun _ h38=>bv h38 (z:=ν ((k1:Int)*64)) rfl (Sa _ _ _ ω ω ω) fun _ h39=>fav h39 rfl (fQ 2) fun _ h40=>?_
   refine ldv h40 s1 0 υ3 rfl rfl rfl rfl fun _ h41=>bv h41 (z:=.bool (decide ((k1:Int)*64<x.s))) rfl (cLt _ _ _ _ rfl) fun _ h42=>mv h42 rfl fun _ h43=>h43.sn [5,4,3,28,27,2,1,0] rfl fun h44=>hK13 _ _<|sqr fun _ hK14=>mvs 2 h44 rfl fun _ h45=>bv h45 (z:=.bool (decide (x.blk k1≠0))) rfl (cNe _ _ _ _ rfl) fun _ h46=>bv h46 (z:=.bool (!((decide ((k1:Int)*64<x.s)) == (decide (x.blk k1≠0))))) rfl (Ada .neq υ4 _ _ _ _) fun _ h47=>mv h47 rfl fun _ h48=>?_
   refine sg h48 (wF h48 rfl rfl rfl) rfl rfl rfl (v:=ν (x.blk k1)) (fun hC10=>Az h48 rfl rfl _) fun _ h49=>?_
   rcases bC ((decide ((k1:Int)*64<x.s)) == (decide (x.blk k1≠0))) with hc3 | hc3
   ·skip
    refine so ((wF h49 rfl rfl rfl).trans (KR (LQ hc3))) fun _ hK15=>BM h49 rfl rfl rfl (xs:=[.tmp 42]) rfl (cF Tryz.func159) rfl (vs:=[ν (x.blk k1)]) (Af0 (opg rfl (KR (LQ hc3))) rfl) (args:=#[ν (x.blk k1)]) rfl (Tb s1) fun _ v1 w2 r1 h50=>hK15 _ _ ?_
    obtain ⟨rfl,s2⟩:=r1
    refine sv h50 ((wF h50 rfl rfl rfl).trans (KR (LQ hc3))) rfl rfl rfl (v:=.bool (!((decide (x.blk k1≥0))&&(decide (x.blk k1≤128))))) (Aeq h50 rfl (b:=((decide (x.blk k1≥0))&&(decide (x.blk k1≤128)))) rfl) fun _ h51=>sv1 h51 rfl (v:=.bool (!((decide (x.blk k1≥0))&&(decide (x.blk k1≤128))))) (Zp h51 rfl (E:=(!((decide ((k1:Int)*64<x.s)) == (decide (x.blk k1≠0))))) (b:=false) rfl (LQ hc3) rfl) fun _ h52=>h52.sn [45,5,4,3,28,27,2,1,0] rfl fun h53=>hK14 _ _ ?_
    rcases bC ((decide (x.blk k1≥0))&&(decide (x.blk k1≤128))) with hc4 | hc4
    ·skip
     have hp4:(x.blk k1≥0)∧(x.blk k1≤128):=(And.intro (dT (OM hc4).1) (dT (OM hc4).2))
     refine wcF h53 rfl (LQ hc4)<|h53.sk [5,4,3,28,27,2,1,0] rfl fun h54=>wp_skip<|hK11 _ _<|wp_region_lit<|bv h54 (z:=ν ((k1+1:Nat):Int)) rfl (Dp _ _ _ ω ω ω) fun _ h55=>h55.sk [46,5,4,3,27,2,1,0] rfl fun h56=>mv h56 rfl fun _ h57=>h57.sk [28,5,4,3,27,2,1,0] rfl fun h58=>wpList_nil ?_
     exact hK8 (k1+1) _ _ ⟨h58.subs rfl,s2,ω,(Aas hf86 (Af7 hc3 hc4))⟩ ω
    ·skip
     have hp5:(¬ (x.blk k1≥0))∨(¬ (x.blk k1≤128)):=((Ae9 hc4).imp (fun q=>(dF q)) (fun q=>(dF q)))
     refine wcT h53 rfl (KR hc4)<|h53.sk [5,4,3,28,27,2,1,0] rfl fun h59=>sqr fun _ hK16=>h59.sk [5,4,3,28,27,1,0] rfl fun h60=>mv h60 rfl fun _ h61=>wpList_nil<|hK16 _ _<|wp_ret ?_
     try simp only [Exit.then,Exit.inBlock]
     refine BF (v:=.bool false) (Dt h61 rfl rfl) h61.defs ?_
     exact ⟨congrArg _ (UD (k:=k1) ω (Aea hc4)).symm,Sep.tail_un (xs:=[]) (s2.pk [1] rfl)⟩
   ·skip
    refine su h49 ((wF h49 rfl rfl rfl).trans (LQ (KR hc3))) rfl rfl rfl fun _ h62=>su h62 ((wF h62 rfl rfl rfl).trans (LQ (KR hc3))) rfl rfl rfl fun _ h63=>sv1 h63 rfl (v:=.bool true) (Zp h63 rfl (E:=(!((decide ((k1:Int)*64<x.s)) == (decide (x.blk k1≠0))))) (b:=true) rfl (KR hc3) rfl) fun _ h64=>h64.sn [45,5,4,3,28,27,2,1,0] rfl fun h65=>hK14 _ _<|wcT h65 rfl rfl<|h65.sk [5,4,3,28,27,2,1,0] rfl fun h66=>sqr fun _ hK17=>h66.sk [5,4,3,28,27,1,0] rfl fun h67=>mv h67 rfl fun _ h68=>?_
    refine wpList_nil<|hK17 _ _<|wp_ret ?_
    try simp only [Exit.then,Exit.inBlock]
    refine BF (v:=.bool false) (Dt h68 rfl rfl) h68.defs ?_
    exact ⟨congrArg _ (UD (k:=k1) ω (Ad9 hc3)).symm,Sep.tail_un (xs:=[]) (s1.pk [1] rfl)⟩
  ·skip
   have hp6:¬ ((k1:Int)<4):=(dF hc2)
   refine wcF h32 rfl hc2<|h32.sk [28,27,2,1,0] rfl fun h69=>wp_exit ?_
   refine hK6 _ _ ?_
   refine sq fun _ hK18=>sqr fun _ hK19=>fav h69 rfl (fQ 7) fun _ h70=>sw1 h70 rfl (v:=.agg #[ν x.o0,ν x.o1,ν x.o2,ν x.o3,ν x.o4,ν x.o5,ν x.o6,ν x.o7]) (rld h70 rfl rfl (ldA υ43 rfl (n:=8) κ (s1.get 0 rfl:Blk _ _ _ _) rfl rfl)) fun _ h71=>mv h71 rfl fun _ h72=>h72.sn [49,48,28,27,2,1,0] rfl fun h73=>hK19 _ _<|wp_block ?_
   refine FC (fun (k:Nat) a' w'=>Kn 59 [(49,ν (k:Int)),(48,.agg #[ν x.o0,ν x.o1,ν x.o2,ν x.o3,ν x.o4,ν x.o5,ν x.o6,ν x.o7]),(28,ν (k1:Int)),(27,.agg #[ν x.b0,ν x.b1,ν x.b2,ν x.b3]),(2,.bool false),(1,π g4),(0,.agg (Ao x).toArray)] a'∧Sep w' [Ad g4 45 (Ao x),Ch.many R]∧(k≤8)∧(Qh x k=true)) (fun (k:Nat)=>8-k) 0 ⟨h73.subs rfl,s1,Nat.zero_le _,rfl⟩ ?_
   rintro k2 a2 w3 ⟨h74,s3,hk2192,hg193⟩ K2 hK20
   refine sqr fun _ hK21=>bv h74 (z:=.bool (decide ((k2:Int)<8))) rfl (cLt _ _ _ _ rfl) fun _ h75=>wpList_nil<|hK21 _ _<|sq fun _ hK22=>?_
   rcases bC (decide ((k2:Int)<8)) with hc5 | hc5
   ·skip
    have hp7:(k2:Int)<8:=(dT hc5)
    refine wcT h75 rfl hc5<|h75.sk [49,48,28,27,2,1,0] rfl fun h76=>wp_skip<|hK22 _ _<|sq fun _ hK23=>wp_block ?_
    refine sqr fun _ hK24=>sv1 h76 rfl (v:=ν (x.opn k2)) (MS h76 rfl rfl rfl (xs:=[x.o0,x.o1,x.o2,x.o3,x.o4,x.o5,x.o6,x.o7]) rfl υ43 rfl rfl rfl (by show _<8;omega)) fun _ h77=>mv h77 rfl fun _ h78=>h78.sn [7,49,48,28,27,2,1,0] rfl fun h79=>hK24 _ _<|sqr fun _ hK25=>mv h79 rfl fun _ h80=>bv h80 (z:=.bool (decide (x.opn k2<0))) rfl (cLt _ _ _ _ rfl) fun _ h81=>mv h81 rfl fun _ h82=>sg h82 (wF h82 rfl rfl rfl) rfl rfl rfl (v:=ν (x.opn k2)) (fun hC11=>Az h82 rfl rfl _) fun _ h83=>?_
    refine sg h83 (wF h83 rfl rfl rfl) rfl rfl rfl (v:=.bool (decide (x.opn k2>8))) (fun hC12=>BV h83 rfl (opg rfl hC12) rfl (cGt _ _ _ _ rfl) _) fun _ h84=>sv1 h84 rfl (v:=.bool ((decide (x.opn k2<0))||(decide (x.opn k2>8)))) (Jo h84 rfl (E:=(decide (x.opn k2<0))) (F:=(decide (x.opn k2>8))) rfl rfl rfl (fun e=>if_pos (by rw [e];try rfl))) fun _ h85=>h85.sn [57,7,49,48,28,27,2,1,0] rfl fun h86=>hK25 _ _ ?_
    rcases bC ((decide (x.opn k2<0))||(decide (x.opn k2>8))) with hc6 | hc6
    ·skip
     have hp8:(x.opn k2<0)∨(x.opn k2>8):=((orT hc6).imp (fun q=>(dT q)) (fun q=>(dT q)))
     refine wcT h86 rfl hc6<|h86.sk [7,49,48,28,27,2,1,0] rfl fun h87=>sqr fun _ hK26=>h87.sk [7,49,48,28,27,1,0] rfl fun h88=>mv h88 rfl fun _ h89=>wpList_nil<|hK26 _ _<|wp_ret ?_
     try simp only [Exit.then,Exit.inBlock]
     refine BF (v:=.bool false) (Dt h89 rfl rfl) h89.defs ?_
     exact ⟨congrArg _ (Aa6 (k:=k2) ω ω).symm,Sep.tail_un (xs:=[]) (s3.pk [1] rfl)⟩
    ·skip
     have hp9:(¬ (x.opn k2<0))∧(¬ (x.opn k2>8)):=(And.intro (dF (orF hc6).1) (dF (orF hc6).2))
     refine wcF h86 rfl hc6<|h86.sk [7,49,48,28,27,2,1,0] rfl fun h90=>wp_skip<|hK23 _ _<|wp_region_lit<|bv h90 (z:=ν ((k2+1:Nat):Int)) rfl (Dp _ _ _ ω ω ω) fun _ h91=>h91.sk [58,7,48,28,27,2,1,0] rfl fun h92=>mv h92 rfl fun _ h93=>h93.sk [49,7,48,28,27,2,1,0] rfl fun h94=>wpList_nil ?_
     exact hK20 (k2+1) _ _ ⟨h94.subs rfl,s3,ω,(Aat hg193 ω)⟩ ω
   ·skip
    have hp10:¬ ((k2:Int)<8):=(dF hc5)
    refine wcF h75 rfl hc5<|h75.sk [49,48,28,27,2,1,0] rfl fun h95=>wp_exit ?_
    refine hK18 _ _ ?_
    refine sqr fun _ hK27=>h95.sk [49,48,28,27,1,0] rfl fun h96=>mv h96 rfl fun _ h97=>wpList_nil<|hK27 _ _<|wp_ret ?_
    try simp only [Exit.then,Exit.inBlock]
    refine BF (v:=.bool true) (Dt h97 rfl rfl) h97.defs ?_
    exact ⟨congrArg _ (Aa7 ω (k:=k1) ω hf86 (j:=k2) ω hg193).symm,Sep.tail_un (xs:=[]) (s3.pk [1] rfl)⟩
theorem Lg (i:InoT) (w:World):Calls Tryz.prog 131 #[Gc i] w fun e w'=>e=.returned (.bool (Do i))∧Below w.heap.size w w':=
 Calls.mono (VX (x:=i) (Sep.start w:Sep w ([]++[Aeb w w.heap.size]))) fun e w' ⟨v,e1,e2,h⟩=>⟨by rw [e1,e2],(h.get 0 rfl:Below w.heap.size w w'∧_).1⟩
end
section
open Go.RowKit Go.WideShapes
theorem Ag9 (x0 x1 x2 x3 y0 y1 y2 y3:Int) (w:World):(Op.equalIn 9999 42 (.agg #[ν x0,ν x1,ν x2,ν x3]) (.agg #[ν y0,ν y1,ν y2,ν y3])).run Tryz.prog w=.ok (decide ([x0,x1,x2,x3]=[y0,y1,y2,y3])) w:=by
  have u3:=υ3
  have a3:=Tryz.isAgg3
  have z3:=Tryz.sizeOf3
  rw [show (9999:Nat)=9998+1 from rfl,Op.equalIn]
  simp only [Sem.run_bind,run_underlying υ42,Result.andThen_ok]
  simp only [Std.Legacy.Range.forIn_eq_forIn_range',Std.Legacy.Range.size,Nat.sub_zero,Nat.add_sub_cancel,Nat.div_one,List.range'_succ,List.range'_zero,List.forIn_cons,List.forIn_nil]
  go_simp
  by_cases h0:x0=y0
  case neg=>simp [h0]
  by_cases h1:x1=y1
  case neg=>simp [h0,h1]
  by_cases h2:x2=y2
  case neg=>simp [h0,h1,h2]
  by_cases h3:x3=y3
  case neg=>simp [h0,h1,h2,h3]
  simp [h0,h1,h2,h3]
theorem Aha (x0 x1 x2 x3 x4 x5 x6 x7 y0 y1 y2 y3 y4 y5 y6 y7:Int) (w:World):(Op.equalIn 9999 43 (.agg #[ν x0,ν x1,ν x2,ν x3,ν x4,ν x5,ν x6,ν x7]) (.agg #[ν y0,ν y1,ν y2,ν y3,ν y4,ν y5,ν y6,ν y7])).run Tryz.prog w=.ok (decide ([x0,x1,x2,x3,x4,x5,x6,x7]=[y0,y1,y2,y3,y4,y5,y6,y7])) w:=by
  have u3:=υ3
  have a3:=Tryz.isAgg3
  have z3:=Tryz.sizeOf3
  rw [show (9999:Nat)=9998+1 from rfl,Op.equalIn]
  simp only [Sem.run_bind,run_underlying υ43,Result.andThen_ok]
  simp only [Std.Legacy.Range.forIn_eq_forIn_range',Std.Legacy.Range.size,Nat.sub_zero,Nat.add_sub_cancel,Nat.div_one,List.range'_succ,List.range'_zero,List.forIn_cons,List.forIn_nil]
  go_simp
  by_cases h0:x0=y0
  case neg=>simp [h0]
  by_cases h1:x1=y1
  case neg=>simp [h0,h1]
  by_cases h2:x2=y2
  case neg=>simp [h0,h1,h2]
  by_cases h3:x3=y3
  case neg=>simp [h0,h1,h2,h3]
  by_cases h4:x4=y4
  case neg=>simp [h0,h1,h2,h3,h4]
  by_cases h5:x5=y5
  case neg=>simp [h0,h1,h2,h3,h4,h5]
  by_cases h6:x6=y6
  case neg=>simp [h0,h1,h2,h3,h4,h5,h6]
  by_cases h7:x7=y7
  case neg=>simp [h0,h1,h2,h3,h4,h5,h6,h7]
  simp [h0,h1,h2,h3,h4,h5,h6,h7]
theorem Afm (x0 x1 x2 x3 x4 x5 x6 x7 y0 y1 y2 y3 y4 y5 y6 y7:Int) (w:World):(Op.equalIn 10000 43 (.agg #[ν x0,ν x1,ν x2,ν x3,ν x4,ν x5,ν x6,ν x7]) (.agg #[ν y0,ν y1,ν y2,ν y3,ν y4,ν y5,ν y6,ν y7])).run Tryz.prog w=.ok (decide ([x0,x1,x2,x3,x4,x5,x6,x7]=[y0,y1,y2,y3,y4,y5,y6,y7])) w:=by
  have u3:=υ3
  have a3:=Tryz.isAgg3
  have z3:=Tryz.sizeOf3
  rw [show (10000:Nat)=9999+1 from rfl,Op.equalIn]
  simp only [Sem.run_bind,run_underlying υ43,Result.andThen_ok]
  simp only [Std.Legacy.Range.forIn_eq_forIn_range',Std.Legacy.Range.size,Nat.sub_zero,Nat.add_sub_cancel,Nat.div_one,List.range'_succ,List.range'_zero,List.forIn_cons,List.forIn_nil]
  go_simp
  by_cases h0:x0=y0
  case neg=>simp [h0]
  by_cases h1:x1=y1
  case neg=>simp [h0,h1]
  by_cases h2:x2=y2
  case neg=>simp [h0,h1,h2]
  by_cases h3:x3=y3
  case neg=>simp [h0,h1,h2,h3]
  by_cases h4:x4=y4
  case neg=>simp [h0,h1,h2,h3,h4]
  by_cases h5:x5=y5
  case neg=>simp [h0,h1,h2,h3,h4,h5]
  by_cases h6:x6=y6
  case neg=>simp [h0,h1,h2,h3,h4,h5,h6]
  by_cases h7:x7=y7
  case neg=>simp [h0,h1,h2,h3,h4,h5,h6,h7]
  simp [h0,h1,h2,h3,h4,h5,h6,h7]
theorem XS (x0 x1 x2 x3 x4 x5 x6 x7 x8 x9 x10 x11 x12 x13 x14 y0 y1 y2 y3 y4 y5 y6 y7 y8 y9 y10 y11 y12 y13 y14:Int) (w:World):(Op.equalIn 10000 45 (.agg #[ν x0,ν x1,ν x2,ν x3,ν x4,ν x5,ν x6,ν x7,ν x8,ν x9,ν x10,ν x11,ν x12,ν x13,ν x14]) (.agg #[ν y0,ν y1,ν y2,ν y3,ν y4,ν y5,ν y6,ν y7,ν y8,ν y9,ν y10,ν y11,ν y12,ν y13,ν y14])).run Tryz.prog w=.ok (decide ([x0,x1,x2,x3,x4,x5,x6,x7,x8,x9,x10,x11,x12,x13,x14]=[y0,y1,y2,y3,y4,y5,y6,y7,y8,y9,y10,y11,y12,y13,y14])) w:=by
  have u3:=υ3
  have a3:=Tryz.isAgg3
  have z3:=Tryz.sizeOf3
  have u4:=υ42
  have a4:=Tryz.isAgg42
  have z4:=Tryz.sizeOf42
  have u8:=υ43
  have a8:=Tryz.isAgg43
  have z8:=Tryz.sizeOf43
  have E4:=Ag9
  have E8:=Aha
  have hS:Tryz.prog.underlying 45=some (.struct (Tryz.prog.fieldsOf 45)):=κ
  have hp:Tryz.prog.stoodInHeld 45=false:=κ
  rw [show (10000:Nat)=9999+1 from rfl,run_equalIn_agg w 9999 45 _ _ hS hp]
  simp only [Program.fieldsOf,υ45]
  go_simp
  by_cases h0:x0=y0
  case neg=>simp [h0]
  by_cases h1:x1=y1
  case neg=>simp [h0,h1]
  by_cases h2:x2=y2
  case neg=>simp [h0,h1,h2]
  by_cases h3:x3=y3
  case neg=>simp [h0,h1,h2,h3]
  by_cases h4:x4=y4
  case neg=>simp [h0,h1,h2,h3,h4]
  by_cases h5:x5=y5
  case neg=>simp [h0,h1,h2,h3,h4,h5]
  by_cases h6:x6=y6
  case neg=>simp [h0,h1,h2,h3,h4,h5,h6]
  by_cases h7:x7=y7
  case neg=>simp [h0,h1,h2,h3,h4,h5,h6,h7]
  by_cases h8:x8=y8
  case neg=>simp [h0,h1,h2,h3,h4,h5,h6,h7,h8]
  by_cases h9:x9=y9
  case neg=>simp [h0,h1,h2,h3,h4,h5,h6,h7,h8,h9]
  by_cases h10:x10=y10
  case neg=>simp [h0,h1,h2,h3,h4,h5,h6,h7,h8,h9,h10]
  by_cases h11:x11=y11
  case neg=>simp [h0,h1,h2,h3,h4,h5,h6,h7,h8,h9,h10,h11]
  by_cases h12:x12=y12
  case neg=>simp [h0,h1,h2,h3,h4,h5,h6,h7,h8,h9,h10,h11,h12]
  by_cases h13:x13=y13
  case neg=>simp [h0,h1,h2,h3,h4,h5,h6,h7,h8,h9,h10,h11,h12,h13]
  by_cases h14:x14=y14
  case neg=>simp [h0,h1,h2,h3,h4,h5,h6,h7,h8,h9,h10,h11,h12,h13,h14]
  simp [h0,h1,h2,h3,h4,h5,h6,h7,h8,h9,h10,h11,h12,h13,h14]
end
section
open Go.RowKit Go.WideShapes
def Ge (n:Int):Bool:=decide (0≤n∧n≤128)
def Iq (l s:Int):Bool:=decide (l=1∧0≤s∧s≤16)
def noO (i:InoT):Bool:=decide ([i.o0,i.o1,i.o2,i.o3,i.o4,i.o5,i.o6,i.o7]=[0,0,0,0,0,0,0,0])
def Jf (i:InoT):Bool:=Iq i.l i.s&&noO i&&(Ge i.b0&&Ge i.b1&&Ge i.b2&&Ge i.b3)
theorem MA (i:InoT) (w:World):Calls Tryz.prog 133 #[Gc i] w fun e w'=>e=.returned (.bool (Jf i))∧Below w.heap.size w w':=by
  obtain ⟨k,l,s,b0,b1,b2,b3,o0,o1,o2,o3,o4,o5,o6,o7⟩:=i
  have HB:Hid (Below w.heap.size w (w.alloc (.cells #[ν k,ν l,ν s,ν b0,ν b1,ν b2,ν b3,ν o0,ν o1,ν o2,ν o3,ν o4,ν o5,ν o6,ν o7] 45))):=(Below.refl w.heap.size w).alloc (Nat.le_refl _) _
  unfold Gc Ao
  obtain ⟨M,hM⟩:∃ M,M=Jf ⟨k,l,s,b0,b1,b2,b3,o0,o1,o2,o3,o4,o5,o6,o7⟩:=⟨_,rfl⟩
  rw [← hM]
  obtain ⟨zo,hzo⟩:∃ zo,decide ([o0,o1,o2,o3,o4,o5,o6,o7]=[0,0,0,0,0,0,0,0])=zo:=⟨_,rfl⟩
  have hMh:Iq l s=false→M=false:=fun h=>by rw [hM];simp [Jf,h]
  have hMo:zo=false→M=false:=fun h=>by rw [hM];rw [h] at hzo;simp only [Jf,noO,hzo];simp
  have hMB:(Ge b0=false∨Ge b1=false∨Ge b2=false∨Ge b3=false)→M=false:=fun h=>by rw [hM];rcases h with h | h | h | h<;>simp [Jf,h]
  have hMT:Iq l s=true→zo=true→(Ge b0=true∧Ge b1=true∧Ge b2=true∧Ge b3=true)→M=true:=fun h1 h2 h3=>by rw [hM];rw [h2] at hzo;simp only [Jf,noO,hzo,h1,h3.1,h3.2.1,h3.2.2.1,h3.2.2.2];rfl
  have HMh:=hid hMh;have HMB:=hid hMB;have HMo:=hid hMo;have HMT:=hid hMT
  have E8:=Afm o0 o1 o2 o3 o4 o5 o6 o7 0 0 0 0 0 0 0 0
  rw [hzo] at E8
  clear hM hMh hMB hMo hMT hzo
  by_cases hh:l=1∧0≤s∧s≤16
  · have hhT:Iq l s=true:=decide_eq_true hh
    have HT:=hid (HMT.out hhT)
    obtain ⟨hl1,h3,h4⟩:=hh
    have d1:(l != 1)=false:=by simpa using hl1
    clear hl1
    have d3:decide (s<0)=false:=decide_eq_false ω
    have d4:decide (16<s)=false:=decide_eq_false ω
    clear hhT HMh
    cases zo
    · have HOK:Hid (M=false):=HMo.out rfl
      clear HT
      go_enter Tryz.func133,Tryz.ntmps133
      go_wp2_with fail
      go_ret
      exact ⟨by rw [HOK.out];rfl,HB.out⟩
    · have HT2:=hid (HT.out rfl)
      clear HT HMo
      have ib0:∀ w,(Instr.index 42 (.agg #[ν b0,ν b1,ν b2,ν b3]) (ν 0)).run Tryz.prog w=.ok (ν b0) w:=fun _=>κ
      have ib1:∀ w,(Instr.index 42 (.agg #[ν b0,ν b1,ν b2,ν b3]) (ν 1)).run Tryz.prog w=.ok (ν b1) w:=fun _=>κ
      have ib2:∀ w,(Instr.index 42 (.agg #[ν b0,ν b1,ν b2,ν b3]) (ν 2)).run Tryz.prog w=.ok (ν b2) w:=fun _=>κ
      have ib3:∀ w,(Instr.index 42 (.agg #[ν b0,ν b1,ν b2,ν b3]) (ν 3)).run Tryz.prog w=.ok (ν b3) w:=fun _=>κ
      go_enter Tryz.func133,Tryz.ntmps133
      go_wp2_with fail
      go_loopw [26] (fun i wr=>∃ j:Nat,j≤4∧i=ν j∧((1≤j→Ge b0=true)∧(2≤j→Ge b1=true)∧(3≤j→Ge b2=true)∧(4≤j→Ge b3=true))∧wr=(w.alloc (.cells #[ν k,ν l,ν s,ν b0,ν b1,ν b2,ν b3,ν o0,ν o1,ν o2,ν o3,ν o4,ν o5,ν o6,ν o7] 45))) (fun i _=>4-(intOf i).toNat)
      case atStart=>exact ⟨0,ω,rfl,⟨fun h=>absurd h ω,fun h=>absurd h ω,fun h=>absurd h ω,fun h=>absurd h ω⟩,rfl⟩
      case round=>
      obtain ⟨j,hj,rfl,hp,rfl⟩:=hrel
      have HP:=hid hp
      clear hp
      rcases (ω:j=0∨j=1∨j=2∨j=3∨j=4) with rfl | rfl | rfl | rfl | rfl
      · skip
        rw [show ((0:Nat):Int)=0 from rfl]
        cases hm:decide (0≤b0∧b0≤128)
        · have HOK:Hid (M=false):=HMB.out (.inl hm)
          go_wp2_with (go_at_call 159;refine (Cz _ _).mono ?_;rintro e w4 ⟨rfl,rfl⟩;rw [hm])
          go_ret
          exact ⟨by rw [HOK.out];rfl,HB.out⟩
        · have HOK:Hid (Ge b0=true):=hm
          go_wp2_with (go_at_call 159;refine (Cz _ _).mono ?_;rintro e w4 ⟨rfl,rfl⟩;rw [hm])
          go_roundw
          case rel=>exact ⟨1,ω,rfl,⟨fun _=>HOK.out,fun h=>absurd h ω,fun h=>absurd h ω,fun h=>absurd h ω⟩,by first | rfl | trivial⟩
          case measure=>simp [intOf]
      · skip
        rw [show ((1:Nat):Int)=1 from rfl]
        cases hm:decide (0≤b1∧b1≤128)
        · have HOK:Hid (M=false):=HMB.out (.inr (.inl hm))
          go_wp2_with (go_at_call 159;refine (Cz _ _).mono ?_;rintro e w4 ⟨rfl,rfl⟩;rw [hm])
          go_ret
          exact ⟨by rw [HOK.out];rfl,HB.out⟩
        · have HOK:Hid (Ge b1=true):=hm
          go_wp2_with (go_at_call 159;refine (Cz _ _).mono ?_;rintro e w4 ⟨rfl,rfl⟩;rw [hm])
          go_roundw
          case rel=>exact ⟨2,ω,rfl,⟨fun _=>HP.out.1 ω,fun _=>HOK.out,fun h=>absurd h ω,fun h=>absurd h ω⟩,by first | rfl | trivial⟩
          case measure=>simp [intOf]
      · skip
        rw [show ((2:Nat):Int)=2 from rfl]
        cases hm:decide (0≤b2∧b2≤128)
        · have HOK:Hid (M=false):=HMB.out (.inr (.inr (.inl hm)))
          go_wp2_with (go_at_call 159;refine (Cz _ _).mono ?_;rintro e w4 ⟨rfl,rfl⟩;rw [hm])
          go_ret
          exact ⟨by rw [HOK.out];rfl,HB.out⟩
        · have HOK:Hid (Ge b2=true):=hm
          go_wp2_with (go_at_call 159;refine (Cz _ _).mono ?_;rintro e w4 ⟨rfl,rfl⟩;rw [hm])
          go_roundw
          case rel=>exact ⟨3,ω,rfl,⟨fun _=>HP.out.1 ω,fun _=>HP.out.2.1 ω,fun _=>HOK.out,fun h=>absurd h ω⟩,by first | rfl | trivial⟩
          case measure=>simp [intOf]
      · skip
        rw [show ((3:Nat):Int)=3 from rfl]
        cases hm:decide (0≤b3∧b3≤128)
        · have HOK:Hid (M=false):=HMB.out (.inr (.inr (.inr hm)))
          go_wp2_with (go_at_call 159;refine (Cz _ _).mono ?_;rintro e w4 ⟨rfl,rfl⟩;rw [hm])
          go_ret
          exact ⟨by rw [HOK.out];rfl,HB.out⟩
        · have HOK:Hid (Ge b3=true):=hm
          go_wp2_with (go_at_call 159;refine (Cz _ _).mono ?_;rintro e w4 ⟨rfl,rfl⟩;rw [hm])
          go_roundw
          case rel=>exact ⟨4,ω,rfl,⟨fun _=>HP.out.1 ω,fun _=>HP.out.2.1 ω,fun _=>HP.out.2.2.1 ω,fun _=>HOK.out⟩,by first | rfl | trivial⟩
          case measure=>simp [intOf]
      · rw [show ((4:Nat):Int)=4 from rfl]
        have HOK:=hid (HT2.out ⟨HP.out.1 ω,HP.out.2.1 ω,HP.out.2.2.1 ω,HP.out.2.2.2 ω⟩)
        go_wp2_with fail
        go_ret
        exact ⟨by rw [HOK.out];rfl,HB.out⟩
  · have HOK:Hid (M=false):=HMh.out (decide_eq_false hh)
    rcases (ω:¬ l=1∨(l=1∧s<0)∨(l=1∧¬ s<0∧16<s)) with h1 | ⟨rfl,h3⟩ | ⟨rfl,h3,h4⟩
    · have d1:(l != 1)=true:=by simpa using h1
      clear hh h1
      go_enter Tryz.func133,Tryz.ntmps133
      go_wp2_with fail
      go_ret
      exact ⟨by rw [HOK.out];rfl,HB.out⟩
    · have d3:decide (s<0)=true:=decide_eq_true h3
      clear hh h3
      go_enter Tryz.func133,Tryz.ntmps133
      go_wp2_with fail
      go_ret
      exact ⟨by rw [HOK.out];rfl,HB.out⟩
    · have d3:decide (s<0)=false:=decide_eq_false h3
      have d4:decide (16<s)=true:=decide_eq_true h4
      clear hh h3 h4
      go_enter Tryz.func133,Tryz.ntmps133
      go_wp2_with fail
      go_ret
      exact ⟨by rw [HOK.out];rfl,HB.out⟩
def FU:List Nat→List Value
  | []=>List.replicate 129 (.bool false)
  | n::l=>(FU l).set n (.bool true)
theorem Dl (l:List Nat):(FU l).length=129:=by
  induction l with
  | nil=>simp [FU]
  | cons n l ih=>simp [FU,ih]
theorem IF (l:List Nat) (n:Nat) (hn:n<129):(FU l)[n]? = some (.bool (decide (n∈l))):=by
  induction l with
  | nil=>
    rw [show FU []=List.replicate 129 (.bool false) from rfl,List.getElem?_replicate,if_pos hn]
    simp
  | cons m l ih=>
    have hl:=Dl l
    simp only [FU]
    by_cases h:m=n
    · subst h;simp [hl,hn]
    · rw [List.getElem?_set_ne h,ih]
      have:(decide (n∈m::l))=decide (n∈l):=by
        simp only [List.mem_cons]
        have h':¬ n=m:=fun e=>h e.symm
        simp [h']
      rw [this]
def twC (n:Nat) (l:List Nat):Bool:=(n != 0)&&decide (n∈l)
def tw (n0 n1 n2 n3:Nat):Bool:=twC n0 []||twC n1 [n0]||twC n2 [n1,n0]||twC n3 [n2,n1,n0]
theorem OF (k l s:Int) (n0 n1 n2 n3:Nat) (o0 o1 o2 o3 o4 o5 o6 o7:Int) (w:World) (g0:n0≤128) (g1:n1≤128) (g2:n2≤128) (g3:n3≤128) :
    Calls Tryz.prog 132 #[Gc ⟨k,l,s,n0,n1,n2,n3,o0,o1,o2,o3,o4,o5,o6,o7⟩] w fun e w'=>e=.returned (.bool (tw n0 n1 n2 n3))∧Below w.heap.size w w':=by
  obtain ⟨M,hM⟩:∃ M,M=tw n0 n1 n2 n3:=⟨_,rfl⟩
  rw [← hM]
  have hMT:(twC n0 []=true∨twC n1 [n0]=true∨twC n2 [n1,n0]=true∨twC n3 [n2,n1,n0]=true)→M=true:=fun h=>by rw [hM];rcases h with h | h | h | h<;>simp [tw,h]
  have hMF:(twC n0 []=false∧twC n1 [n0]=false∧twC n2 [n1,n0]=false∧twC n3 [n2,n1,n0]=false)→M=false:=fun h=>by rw [hM];simp [tw,h.1,h.2.1,h.2.2.1,h.2.2.2]
  have HMT:=hid hMT;have HMF:=hid hMF
  clear hM hMT hMF
  obtain ⟨Z,hZ⟩:∃ Z:Array Value,Z=Array.replicate 129 (.bool false):=⟨_,rfl⟩
  have hz:∀ w,(zeroValue 227).run Tryz.prog w=.ok (.agg Z) w:=fun _=>by rw [hZ];kernel_rfl
  unfold Gc Ao
  have k0:Blk ((w.alloc (.cells #[ν k,ν l,ν s,ν (n0:Nat),ν (n1:Nat),ν (n2:Nat),ν (n3:Nat),ν o0,ν o1,ν o2,ν o3,ν o4,ν o5,ν o6,ν o7] 45)).alloc (.cells Z 227)) (w.heap.size+1) 227 (FU []):=by
    have q:=heap_alloc_new (w.alloc (.cells #[ν k,ν l,ν s,ν (n0:Nat),ν (n1:Nat),ν (n2:Nat),ν (n3:Nat),ν o0,ν o1,ν o2,ν o3,ν o4,ν o5,ν o6,ν o7] 45)) (.cells Z 227)
    rw [show (w.alloc (.cells #[ν k,ν l,ν s,ν (n0:Nat),ν (n1:Nat),ν (n2:Nat),ν (n3:Nat),ν o0,ν o1,ν o2,ν o3,ν o4,ν o5,ν o6,ν o7] 45)).heap.size=w.heap.size+1 from by simp] at q
    unfold Blk
    have hs:(FU []).toArray=Array.replicate 129 (.bool false):=by
      show (List.replicate 129 (Value.bool false)).toArray=_
      exact List.toArray_replicate _ _
    rw [q,hZ,hs]
  have b0:Below w.heap.size w ((w.alloc (.cells #[ν k,ν l,ν s,ν (n0:Nat),ν (n1:Nat),ν (n2:Nat),ν (n3:Nat),ν o0,ν o1,ν o2,ν o3,ν o4,ν o5,ν o6,ν o7] 45)).alloc (.cells Z 227)):=((Below.refl _ w).alloc (Nat.le_refl _) _).alloc (by simp) _
  have K0:=hid k0;have B0:=hid b0
  clear k0 b0 hZ
  have ib0:∀ w,(Instr.index 42 (.agg #[ν (n0:Nat),ν (n1:Nat),ν (n2:Nat),ν (n3:Nat)]) (ν 0)).run Tryz.prog w=.ok (ν (n0:Nat)) w:=fun _=>κ
  have ib1:∀ w,(Instr.index 42 (.agg #[ν (n0:Nat),ν (n1:Nat),ν (n2:Nat),ν (n3:Nat)]) (ν 1)).run Tryz.prog w=.ok (ν (n1:Nat)) w:=fun _=>κ
  have ib2:∀ w,(Instr.index 42 (.agg #[ν (n0:Nat),ν (n1:Nat),ν (n2:Nat),ν (n3:Nat)]) (ν 2)).run Tryz.prog w=.ok (ν (n2:Nat)) w:=fun _=>κ
  have ib3:∀ w,(Instr.index 42 (.agg #[ν (n0:Nat),ν (n1:Nat),ν (n2:Nat),ν (n3:Nat)]) (ν 3)).run Tryz.prog w=.ok (ν (n3:Nat)) w:=fun _=>κ
  go_enter Tryz.func132,Tryz.ntmps132
  go_wp2_with fail
  go_loopw [8] (fun i wr=>∃ (j:Nat) (l:List Nat),j≤4∧i=ν j∧Blk wr (w.heap.size+1) 227 (FU l)∧Below w.heap.size w wr∧((j=0∧l=[])∨(j=1∧l=[n0]∧twC n0 []=false)∨(j=2∧l=[n1,n0]∧twC n0 []=false∧twC n1 [n0]=false)∨(j=3∧l=[n2,n1,n0]∧twC n0 []=false∧twC n1 [n0]=false∧twC n2 [n1,n0]=false)∨(j=4∧twC n0 []=false∧twC n1 [n0]=false∧twC n2 [n1,n0]=false∧twC n3 [n2,n1,n0]=false))) (fun i _=>4-(intOf i).toNat)
  case atStart=>exact ⟨0,[],ω,rfl,K0.out,B0.out,.inl ⟨rfl,rfl⟩⟩
  case round=>
  obtain ⟨j,l',hj,rfl,kb,bb,hrel⟩:=hrel
  clear K0 B0 hz
  rcases hrel with ⟨rfl,rfl⟩ | ⟨rfl,rfl,t0⟩ | ⟨rfl,rfl,t0,t1⟩ | ⟨rfl,rfl,t0,t1,t2⟩ | ⟨rfl,t0,t1,t2,t3⟩
  · skip
    rw [show ((0:Nat):Int)=0 from rfl]
    have kc:wr.cell? ⟨w.heap.size+1,n0,none⟩=some (.bool (decide (n0∈([]:List Nat)))):=by
      have q1:=kb.cell (i:=n0) (by rw [Dl];omega)
      have q2:=IF [] n0 ω
      rw [List.getElem?_eq_getElem (by rw [Dl];omega)] at q2
      rw [q1,Option.some.inj q2]
    have hf:=kb.frozen n0
    have kb2:Hid (Blk (wr.setCell ⟨w.heap.size+1,n0,none⟩ (.bool true)) (w.heap.size+1) 227 (FU (n0::[]))):=kb.set n0 (.bool true)
    have bb2:=hid (bb.setCell (p:=⟨w.heap.size+1,n0,none⟩) (by show w.heap.size≤w.heap.size+1;omega) (.bool true))
    have hi:(n0:Int)<129:=ω
    have HC:Hid (twC n0 []=((n0 != 0)&&decide (n0∈([]:List Nat)))):=rfl
    have BB:=hid bb
    clear kb bb
    generalize decide (n0∈([]:List Nat))=dm at *
    by_cases hn:n0=0
    · have HT:Hid (twC n0 []=false):=by rw [HC.out,hn];rfl
      have hn':((n0:Int) != 0)=false:=by simp;omega
      clear HC hn
      go_wp2_with fail
      go_roundw
      case rel=>exact ⟨1,n0::[],ω,rfl,kb2.out,bb2.out,.inr (.inl ⟨rfl,rfl,HT.out⟩)⟩
      case measure=>simp [intOf]
    · have hn':((n0:Int) != 0)=true:=by simp;omega
      have hn2:(n0 != 0)=true:=by simp;omega
      cases dm
      · have HT:Hid (twC n0 []=false):=by rw [HC.out,Bool.and_false];exact rfl
        clear HC
        go_wp2_with fail
        go_roundw
        case rel=>exact ⟨1,n0::[],ω,rfl,kb2.out,bb2.out,.inr (.inl ⟨rfl,rfl,HT.out⟩)⟩
        case measure=>simp [intOf]
      · have HT:Hid (twC n0 []=true):=by rw [HC.out,hn2];rfl
        have HOK:Hid (M=true):=HMT.out (.inl HT.out)
        clear HC
        go_wp2_with fail
        go_ret
        exact ⟨by rw [HOK.out];rfl,BB.out⟩
  · skip
    have T0:=hid t0
    clear t0
    rw [show ((1:Nat):Int)=1 from rfl]
    have kc:wr.cell? ⟨w.heap.size+1,n1,none⟩=some (.bool (decide (n1∈([n0]:List Nat)))):=by
      have q1:=kb.cell (i:=n1) (by rw [Dl];omega)
      have q2:=IF [n0] n1 ω
      rw [List.getElem?_eq_getElem (by rw [Dl];omega)] at q2
      rw [q1,Option.some.inj q2]
    have hf:=kb.frozen n1
    have kb2:Hid (Blk (wr.setCell ⟨w.heap.size+1,n1,none⟩ (.bool true)) (w.heap.size+1) 227 (FU (n1::[n0]))):=kb.set n1 (.bool true)
    have bb2:=hid (bb.setCell (p:=⟨w.heap.size+1,n1,none⟩) (by show w.heap.size≤w.heap.size+1;omega) (.bool true))
    have hi:(n1:Int)<129:=ω
    have HC:Hid (twC n1 [n0]=((n1 != 0)&&decide (n1∈([n0]:List Nat)))):=rfl
    have BB:=hid bb
    clear kb bb
    generalize decide (n1∈([n0]:List Nat))=dm at *
    by_cases hn:n1=0
    · have HT:Hid (twC n1 [n0]=false):=by rw [HC.out,hn];rfl
      have hn':((n1:Int) != 0)=false:=by simp;omega
      clear HC hn
      go_wp2_with fail
      go_roundw
      case rel=>exact ⟨2,n1::[n0],ω,rfl,kb2.out,bb2.out,.inr (.inr (.inl ⟨rfl,rfl,T0.out,HT.out⟩))⟩
      case measure=>simp [intOf]
    · have hn':((n1:Int) != 0)=true:=by simp;omega
      have hn2:(n1 != 0)=true:=by simp;omega
      cases dm
      · have HT:Hid (twC n1 [n0]=false):=by rw [HC.out,Bool.and_false];exact rfl
        clear HC
        go_wp2_with fail
        go_roundw
        case rel=>exact ⟨2,n1::[n0],ω,rfl,kb2.out,bb2.out,.inr (.inr (.inl ⟨rfl,rfl,T0.out,HT.out⟩))⟩
        case measure=>simp [intOf]
      · have HT:Hid (twC n1 [n0]=true):=by rw [HC.out,hn2];rfl
        have HOK:Hid (M=true):=HMT.out (.inr (.inl HT.out))
        clear HC
        go_wp2_with fail
        go_ret
        exact ⟨by rw [HOK.out];rfl,BB.out⟩
  · skip
    have T0:=hid t0
    clear t0
    have T1:=hid t1
    clear t1
    rw [show ((2:Nat):Int)=2 from rfl]
    have kc:wr.cell? ⟨w.heap.size+1,n2,none⟩=some (.bool (decide (n2∈([n1,n0]:List Nat)))):=by
      have q1:=kb.cell (i:=n2) (by rw [Dl];omega)
      have q2:=IF [n1,n0] n2 ω
      rw [List.getElem?_eq_getElem (by rw [Dl];omega)] at q2
      rw [q1,Option.some.inj q2]
    have hf:=kb.frozen n2
    have kb2:Hid (Blk (wr.setCell ⟨w.heap.size+1,n2,none⟩ (.bool true)) (w.heap.size+1) 227 (FU (n2::[n1,n0]))):=kb.set n2 (.bool true)
    have bb2:=hid (bb.setCell (p:=⟨w.heap.size+1,n2,none⟩) (by show w.heap.size≤w.heap.size+1;omega) (.bool true))
    have hi:(n2:Int)<129:=ω
    have HC:Hid (twC n2 [n1,n0]=((n2 != 0)&&decide (n2∈([n1,n0]:List Nat)))):=rfl
    have BB:=hid bb
    clear kb bb
    generalize decide (n2∈([n1,n0]:List Nat))=dm at *
    by_cases hn:n2=0
    · have HT:Hid (twC n2 [n1,n0]=false):=by rw [HC.out,hn];rfl
      have hn':((n2:Int) != 0)=false:=by simp;omega
      clear HC hn
      go_wp2_with fail
      go_roundw
      case rel=>exact ⟨3,n2::[n1,n0],ω,rfl,kb2.out,bb2.out,.inr (.inr (.inr (.inl ⟨rfl,rfl,T0.out,T1.out,HT.out⟩)))⟩
      case measure=>simp [intOf]
    · have hn':((n2:Int) != 0)=true:=by simp;omega
      have hn2:(n2 != 0)=true:=by simp;omega
      cases dm
      · have HT:Hid (twC n2 [n1,n0]=false):=by rw [HC.out,Bool.and_false];exact rfl
        clear HC
        go_wp2_with fail
        go_roundw
        case rel=>exact ⟨3,n2::[n1,n0],ω,rfl,kb2.out,bb2.out,.inr (.inr (.inr (.inl ⟨rfl,rfl,T0.out,T1.out,HT.out⟩)))⟩
        case measure=>simp [intOf]
      · have HT:Hid (twC n2 [n1,n0]=true):=by rw [HC.out,hn2];rfl
        have HOK:Hid (M=true):=HMT.out (.inr (.inr (.inl HT.out)))
        clear HC
        go_wp2_with fail
        go_ret
        exact ⟨by rw [HOK.out];rfl,BB.out⟩
  · skip
    have T0:=hid t0
    clear t0
    have T1:=hid t1
    clear t1
    have T2:=hid t2
    clear t2
    rw [show ((3:Nat):Int)=3 from rfl]
    have kc:wr.cell? ⟨w.heap.size+1,n3,none⟩=some (.bool (decide (n3∈([n2,n1,n0]:List Nat)))):=by
      have q1:=kb.cell (i:=n3) (by rw [Dl];omega)
      have q2:=IF [n2,n1,n0] n3 ω
      rw [List.getElem?_eq_getElem (by rw [Dl];omega)] at q2
      rw [q1,Option.some.inj q2]
    have hf:=kb.frozen n3
    have kb2:Hid (Blk (wr.setCell ⟨w.heap.size+1,n3,none⟩ (.bool true)) (w.heap.size+1) 227 (FU (n3::[n2,n1,n0]))):=kb.set n3 (.bool true)
    have bb2:=hid (bb.setCell (p:=⟨w.heap.size+1,n3,none⟩) (by show w.heap.size≤w.heap.size+1;omega) (.bool true))
    have hi:(n3:Int)<129:=ω
    have HC:Hid (twC n3 [n2,n1,n0]=((n3 != 0)&&decide (n3∈([n2,n1,n0]:List Nat)))):=rfl
    have BB:=hid bb
    clear kb bb
    generalize decide (n3∈([n2,n1,n0]:List Nat))=dm at *
    by_cases hn:n3=0
    · have HT:Hid (twC n3 [n2,n1,n0]=false):=by rw [HC.out,hn];rfl
      have hn':((n3:Int) != 0)=false:=by simp;omega
      clear HC hn
      go_wp2_with fail
      go_roundw
      case rel=>exact ⟨4,n3::[n2,n1,n0],ω,rfl,kb2.out,bb2.out,.inr (.inr (.inr (.inr (⟨rfl,T0.out,T1.out,T2.out,HT.out⟩))))⟩
      case measure=>simp [intOf]
    · have hn':((n3:Int) != 0)=true:=by simp;omega
      have hn2:(n3 != 0)=true:=by simp;omega
      cases dm
      · have HT:Hid (twC n3 [n2,n1,n0]=false):=by rw [HC.out,Bool.and_false];exact rfl
        clear HC
        go_wp2_with fail
        go_roundw
        case rel=>exact ⟨4,n3::[n2,n1,n0],ω,rfl,kb2.out,bb2.out,.inr (.inr (.inr (.inr (⟨rfl,T0.out,T1.out,T2.out,HT.out⟩))))⟩
        case measure=>simp [intOf]
      · have HT:Hid (twC n3 [n2,n1,n0]=true):=by rw [HC.out,hn2];rfl
        have HOK:Hid (M=true):=HMT.out (.inr (.inr (.inr (HT.out))))
        clear HC
        go_wp2_with fail
        go_ret
        exact ⟨by rw [HOK.out];rfl,BB.out⟩
  · rw [show ((4:Nat):Int)=4 from rfl]
    have HOK:Hid (M=false):=HMF.out ⟨t0,t1,t2,t3⟩
    have BB:=hid bb
    clear t0 t1 t2 t3 kb bb
    go_wp2_with fail
    go_ret
    exact ⟨by rw [HOK.out];rfl,BB.out⟩
end
end Go.Proofs.YtbfgjinpchbajaaGreatDoor
