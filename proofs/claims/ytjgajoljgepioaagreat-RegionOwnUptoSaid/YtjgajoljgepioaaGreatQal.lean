/- Parts of the proof. -/
import Derived.Test.YtjgajoljgepioaaGreatRows
import Derived.Deep.Strs
import Derived.Deep.Slices
import Derived.Deep.Fields
import Derived.ChangeSame
import Derived.OpenShut
import Derived.Test.YtjgajoljgepioaaGreatQak
namespace Go.Proofs.YtjgajoljgepioaaGreat
open Go.RowKit
set_option linter.unusedSimpArgs false
set_option linter.unusedVariables false
set_option linter.unusedSectionVars false
set_option maxRecDepth 100000
set_option maxHeartbeats 8000000
section
def pL (e s a:Int):PkM:=⟨fun k=>if k=0 then 1 else if k=1 then 2 else if k=2 then e else if k=3 then s else if k=4 then 1 else if k=5 then a else 0,fun k=>if k=7 then [120] else [],[]⟩
theorem Kr {e s a:Int} (he:wfI e) (hs:wfI s) (ha:wfI a):wfP (pL e s a):=fun o=>by
 show wfI (if o=0 then 1 else if o=1 then 2 else if o=2 then e else if o=3 then s else if o=4 then 1 else if o=5 then a else 0)
 repeat' split
 all_goals first | exact he | exact hs | exact ha | (unfold wfI;decide)
theorem Ue {e s a:Int}:shortP (pL e s a):=fun o _=>by
 show (if o=7 then [120] else []:List UInt8).length≤_
 split<;>decide
def Wk:List SideM:=(List.replicate 8 (Ac 0)).set 1 (Ac 1)
def lvM:MemM:=CM (Dd 23168) 7808 [120]
def GZ:List SideM:=Wk.set 1 ⟨1,1,Ai (pL 1 1 7808) 0 [] 0,true⟩
def Vk:List SideM:=GZ.set 1 ⟨1,2,Ai (pL 1 2 6784) 35 [] 0,true⟩
theorem Im:lvM.V.length=23168:=by
 have h:(Dd 23168).V.length=23168:=Gt
 show (splice (Dd 23168).V 7808 [120]).length=23168
 rw [length_splice _ _ _ (by rw [h];decide)];exact h
theorem VT:CV (pL 1 1 7808)=0:=by decide +kernel
theorem Xf:CV (pL 0 1 7808)=0:=by decide +kernel
theorem Xg:CV (pL 1 2 6784)=0:=by decide +kernel
theorem Xd:CJ ((pL 1 1 7808).I 1) ((pL 1 1 7808).I 5) (((pL 1 1 7808).S 7).length:Int)=true:=by decide +kernel
theorem Xe:CJ ((pL 1 2 6784).I 1) ((pL 1 2 6784).I 5) (((pL 1 2 6784).S 7).length:Int)=false:=by decide +kernel
theorem Xc {e s a:Int}:(pL e s a).S 7≠[]:=fun h=>by cases h
theorem Tj {C:CardM} {P:PkM} {M':MemM} {er ol:Int} {d:List UInt8} {s:SideM} (hs:C.S.getD (P.I 1-1).toNat (Ac 0)=s) (h0:CV P=0) (h1:P.I 0=1) (h2:P.I 2=s.ep) (h3:P.I 3≠s.last) (h4:P.I 3-1=s.last) (hv:CD P C.M=(M',er,d,ol)) :
  doC C P=(⟨M',C.S.set (P.I 1-1).toNat ⟨s.ep,P.I 3,Ai P er d ol,true⟩,decide (er=0)⟩,Ai P er d ol,true):=by
 unfold doC
 rw [hs,if_neg (fun q=>q.elim (fun q=>q h0) (fun q=>q h1)),if_neg (fun q=>q h2),if_neg h3,if_neg (fun q=>q h4),hv]
theorem Tl {C:CardM} {P:PkM} {s:SideM} (hs:C.S.getD (P.I 1-1).toNat (Ac 0)=s) (h0:CV P=0) (h1:P.I 0=1) (h2:P.I 2=s.ep) (h3:P.I 3=s.last) :
  doC C P=(⟨C.M,C.S,false⟩,s.told,s.had):=by
 unfold doC
 rw [hs,if_neg (fun q=>q.elim (fun q=>q h0) (fun q=>q h1)),if_neg (fun q=>q h2),if_pos h3]
theorem UQ {C:CardM} {P:PkM} {s:SideM} (hs:C.S.getD (P.I 1-1).toNat (Ac 0)=s) (h0:CV P=0) (h1:P.I 0=1) (h2:P.I 2≠s.ep) :
  doC C P=(⟨C.M,C.S,false⟩,Ai P 31 [] 0,true):=by
 unfold doC
 rw [hs,if_neg (fun q=>q.elim (fun q=>q h0) (fun q=>q h1)),if_pos h2]
theorem lv1:doC ⟨Dd 23168,Wk,false⟩ (pL 1 1 7808)=(⟨lvM,GZ,true⟩,Ai (pL 1 1 7808) 0 [] 0,true):=by
 have hv:CD (pL 1 1 7808) (Dd 23168)=(lvM,0,[],0):=by
  unfold CD;rw [if_pos (show (pL 1 1 7808).I 4=1 from rfl)];unfold Ki;rw [if_pos ⟨Xc,Xd⟩];rfl
 exact Tj (C:=⟨Dd 23168,Wk,false⟩) (s:=Ac 1) rfl VT rfl rfl (show (1:Int)≠0 by decide) rfl hv
theorem lv2:doC ⟨lvM,GZ,true⟩ (pL 1 1 7808)=(⟨lvM,GZ,false⟩,Ai (pL 1 1 7808) 0 [] 0,true):=
 Tl (C:=⟨lvM,GZ,true⟩) (s:=⟨1,1,Ai (pL 1 1 7808) 0 [] 0,true⟩) rfl VT rfl rfl rfl
theorem lv3:doC ⟨lvM,GZ,false⟩ (pL 0 1 7808)=(⟨lvM,GZ,false⟩,Ai (pL 0 1 7808) 31 [] 0,true):=
 UQ (C:=⟨lvM,GZ,false⟩) (s:=⟨1,1,Ai (pL 1 1 7808) 0 [] 0,true⟩) rfl Xf rfl (show (0:Int)≠1 by decide)
theorem lv4:doC ⟨lvM,GZ,false⟩ (pL 1 2 6784)=(⟨lvM,Vk,false⟩,Ai (pL 1 2 6784) 35 [] 0,true):=by
 have hv:CD (pL 1 2 6784) lvM=(lvM,35,[],0):=by
  unfold CD;rw [if_pos (show (pL 1 2 6784).I 4=1 from rfl)];unfold Ki;rw [if_neg (fun q=>by rw [Xe] at q;cases q.2)]
 exact Tj (C:=⟨lvM,GZ,false⟩) (s:=⟨1,1,Ai (pL 1 1 7808) 0 [] 0,true⟩) rfl Xg rfl rfl (show (2:Int)≠1 by decide) rfl hv
theorem Hs {w:World} {R:List Ch} {P:PkM} {cg mg mb md mp B:Nat} {S S':List SideM} {fr fr' b:Bool} {M M':MemM} {Q:PkM} {W:World} (hS0:Sep w ([Ab cg 83 (An mg S fr),AJ mg mb md mp M,AO W B]++R)) (h8:S.length=8) (hM:M.V.length=23168) (hB:B=W.heap.size) (wP:wfP P) (hdo:doC ⟨M,S,fr⟩ P=(⟨M',S',fr'⟩,Q,b)) (hS7:shortP P:=by exact Ue) (hN:P.N=[]:=by rfl) :
  CallsR Tryz.prog 17 #[π cg,.agg (pkC P none 0 0).toArray] w (fun v w'=>v=.tuple #[.agg (pk0 Q).toArray,.bool b]∧Sep w' ([Ab cg 83 (An mg S' fr'),AJ mg mb md mp M',AO W B]++R)):=by
 have r:Row W 1 none P.N.length 0 (P.N.map AS):=by rw [hN];exact Row.nil W 1
 have z:=PM (R:=R) (P:=P) (pa:=none) (pc:=0) (W:=W) hS0 h8 hM hB wP (LY wP) hS7 (by rw [hN];intro s hs;cases hs) (by rw [hN];exact Nat.zero_le _) r
 rw [hN] at z
 exact CallsR.mono z fun v w' ⟨M2,S2,f2,Q2,b2,e1,s,e2⟩=>by
  rw [hdo] at e2;cases e2;exact ⟨e1,s⟩
theorem FX (args:Array Value) (w:World):(callFunc 7 args).run Tryz.prog w=.ok (.enter 7 args) w:=by
 have h:=Tryz.func7
 go_simp
theorem AI (g off:Nat) (w:World):(Instr.fieldAt 54 (.pointer (some ⟨g,off,none⟩)) 1).run Tryz.prog w=.ok (.pointer (some ⟨g,off+1,none⟩)) w:=rfl
theorem Fa (args:Array Value) (w:World):(callFunc 25 args).run Tryz.prog w=.ok (.enter 25 args) w:=by
 have h:=Tryz.func25
 go_simp
theorem DR (args:Array Value) (w:World):(callFunc 19 args).run Tryz.prog w=.ok (.enter 19 args) w:=by
 have h:=Tryz.func19
 go_simp
theorem Fh (g off:Nat) (w:World):(Instr.fieldAt 39 (.pointer (some ⟨g,off,none⟩)) 2).run Tryz.prog w=.ok (.pointer (some ⟨g,off+2,none⟩)) w:=rfl
theorem IW (g off:Nat) (w:World):(Instr.fieldAt 39 (.pointer (some ⟨g,off,none⟩)) 3).run Tryz.prog w=.ok (.pointer (some ⟨g,off+3,none⟩)) w:=rfl
theorem IX (g off:Nat) (w:World):(Instr.fieldAt 39 (.pointer (some ⟨g,off,none⟩)) 5).run Tryz.prog w=.ok (.pointer (some ⟨g,off+5,none⟩)) w:=rfl
theorem CG (g off:Nat) (w:World):(Instr.fieldAt 39 (.pointer (some ⟨g,off,none⟩)) 12).run Tryz.prog w=.ok (.pointer (some ⟨g,off+19,none⟩)) w:=rfl
theorem Gm (args:Array Value) (w:World):(callFunc 10 args).run Tryz.prog w=.ok (.enter 10 args) w:=by
 have h:=Tryz.func10
 go_simp
theorem AW (args:Array Value) (w:World):(callFunc 17 args).run Tryz.prog w=.ok (.enter 17 args) w:=by
 have h:=Tryz.func17
 go_simp
theorem Se {w:World} {R:List Ch} {B:Nat} {W:World} (hS0:Sep w ([AO W B]++R)) (hB:B=W.heap.size) :
  CallsR Tryz.prog 13 #[] w (fun v w'=>v=.bool true∧Sep w' ([AO W B]++R)):=by
 have hS:Sep w [AO W B,Ch.many R]:=Sep.tail_many (xs:=[_]) hS0;clear hS0
 refine Cd Tryz.func13 rfl (N:=117) Tryz.ntmps13 (by show 0≤117;decide) [] rfl fun _ h1=>sqr fun _ hK3=>mv h1 rfl fun _ h4=>wpList_nil<|hK3 _ _<|sqr fun _ hK6=>cl h4 rfl FX (Mk hS) fun _ v1 w2 r1 h2=>?_
 obtain ⟨pgx7,cgx8,mgx9,mbx10,mdx11,mpx12,dgx13,gsx14,rgx15,rvx16,rdx17,rax18,rfl,s1⟩:=r1
 refine mv h2 rfl fun _ h3=>h3.sn [1,0] rfl fun h5=>hK6 _ _<|sq fun _ hK1=>sqr fun _ hK2=>mv h5 rfl fun _ h6=>bv h6 (z:=.bool false) rfl (SU _ υ23 _ _ _) fun _ h7=>h7.sn [15,1,0] rfl fun h8=>hK2 _ _<|wcF h8 rfl rfl<|h8.sk [1,0] rfl fun h9=>?_
 refine wp_skip<|hK1 _ _<|sqr fun _ hK4=>mvs 2 h9 rfl fun _ h10=>fav h10 rfl (AI _ _) fun _ h11=>ldv h11 s1 0 υ51 rfl rfl rfl rfl fun _ h12=>cl h12 rfl Fa (LM (j:=1) (c:=2) (ep:=1) (s1.pk [1,0,2,3,4,5,6,7] rfl) rfl (by decide) rfl) fun _ v2 w3 r2 h13=>?_
 obtain ⟨rfl,s2⟩:=r2
 refine h13.sn [1,0] rfl fun h14=>hK4 _ _<|sqr fun _ hK5=>bu h14 (v:=.agg (pkC (pL 1 1 7808) none 0 0).toArray) rfl (fun w=>κ) fun _ h15=>so (wn rfl) fun _ hK7=>Cj h15 rfl rfl rfl rfl (z:=[ν 0,ν 0,ν 0,ν 0,ν 0,ν 0,ν 0,σ [],ν 0,ν 0,ν 0,σ [],σ [],ν 0,ν 0,ν 0,ν 0,σ [],ν 0,ν 0,ν 0,ν 0,σ [],.slice none 0 0,ν 0,ν 0,ν 0,ν 0,ν 0,ν 0,ν 0,ν 0,ν 0,ν 0,ν 0,ν 0,ν 0,ν 0,ν 0,ν 0,ν 0,ν 0,ν 0]) (fun _=>rfl) s2 fun _ g1 w4 h16 s3 _ _=>hK7 _ _ ?_
 refine stA h16 s3 0 rfl rfl rfl κ rfl rfl rfl rfl fun _ w5 h17 s4 _=>h17.sn [2,1,0] rfl fun h18=>hK5 _ _<|sq fun K1 hK8=>?_
 have hJ73:∀ (gv0:Nat) a' w',Kn 117 [(2,π g1),(1,π pgx7),(0,.bool false),(3,π gv0),(4,.bool true)] a'→Sep w' [Ab gv0 39 (pk0 (Ai (pL 1 1 7808) 0 [] 0)),Ab g1 39 (pkC (pL 1 1 7808) none 0 0),Ab cgx8 83 (An mgx9 GZ true),Ab pgx7 54 [π mgx9,π cgx8,π rgx15,π dgx13],AJ mgx9 mbx10 mdx11 mpx12 lvM,Ab dgx13 49 [π rgx15,.slice (some ⟨gsx14,0,none⟩) 8 8,.bool false],Ab gsx14 45 ((List.replicate 8 (Ac 0)).flatMap AM),AV rgx15 rvx16 rdx17 rax18 (Dd 23168),AO W B,Ch.many R]→K1 a' w':=by
  intro gv0 a1 w6 h19 s5
  refine hK8 _ _ ?_
  refine sqr fun _ hK9=>mvs 2 h19 rfl fun _ h20=>fav h20 rfl (AI _ _) fun _ h21=>ldv h21 s5 3 υ51 rfl rfl rfl rfl fun _ h22=>cl h22 rfl DR (Nd (s5.pk [2,0,1,3,4,5,6,7,8,9] rfl) rfl) fun _ v3 w7 r3 h23=>?_
  obtain ⟨rfl,s6⟩:=r3
  refine mv h23 rfl fun _ h24=>h24.sn [5,2,1,0,3,4] rfl fun h25=>hK9 _ _<|sq fun K2 hK10=>?_
  have hJ98:∀ (gv1:Nat) a' w',Kn 117 [(5,.bool true),(2,π g1),(1,π pgx7),(0,.bool false),(3,π gv0),(4,.bool true),(6,π gv1),(7,.bool true)] a'→Sep w' [Ab gv1 39 (pk0 (Ai (pL 1 1 7808) 0 [] 0)),Ab cgx8 83 (An mgx9 GZ false),Ab gv0 39 (pk0 (Ai (pL 1 1 7808) 0 [] 0)),Ab g1 39 (pkC (pL 1 1 7808) none 0 0),Ab pgx7 54 [π mgx9,π cgx8,π rgx15,π dgx13],AJ mgx9 mbx10 mdx11 mpx12 lvM,Ab dgx13 49 [π rgx15,.slice (some ⟨gsx14,0,none⟩) 8 8,.bool false],Ab gsx14 45 ((List.replicate 8 (Ac 0)).flatMap AM),AV rgx15 rvx16 rdx17 rax18 (Dd 23168),AO W B,Ch.many R]→K2 a' w':=by
   intro gv1 a2 w8 h26 s7
   refine hK10 _ _ ?_
   refine sqr fun _ hK11=>mvs 2 h26 rfl fun _ h27=>fav h27 rfl (AI _ _) fun _ h28=>ldv h28 s7 4 υ51 rfl rfl rfl rfl fun _ h29=>cl h29 rfl DR (Nd (s7.pk [1,0,2,3,4,5,6,7,8,9,10] rfl) rfl) fun _ v4 w9 r4 h30=>?_
   obtain ⟨rfl,s8⟩:=r4
   refine mv h30 rfl fun _ h31=>h31.sn [8,5,2,1,0,3,4,6,7] rfl fun h32=>hK11 _ _<|sqr fun _ hK12=>fav h32 rfl (Fh _ _) fun _ h33=>st1 h33 s8 3 rfl rfl κ rfl rfl rfl rfl fun _ w10 h34 s9 _=>h34.sn [8,5,2,1,0,3,4,6,7] rfl fun h35=>hK12 _ _<|sq fun K3 hK13=>?_
   have hJ133:∀ (gv2:Nat) a' w',Kn 117 [(8,.bool false),(5,.bool true),(2,π g1),(1,π pgx7),(0,.bool false),(3,π gv0),(4,.bool true),(6,π gv1),(7,.bool true),(9,π gv2),(10,.bool true)] a'→Sep w' [Ab gv2 39 (pk0 (Ai (pL 0 1 7808) 31 [] 0)),Ab cgx8 83 (An mgx9 GZ false),Ab gv1 39 (pk0 (Ai (pL 1 1 7808) 0 [] 0)),Ab gv0 39 (pk0 (Ai (pL 1 1 7808) 0 [] 0)),Ab g1 39 (pkC (pL 0 1 7808) none 0 0),Ab pgx7 54 [π mgx9,π cgx8,π rgx15,π dgx13],AJ mgx9 mbx10 mdx11 mpx12 lvM,Ab dgx13 49 [π rgx15,.slice (some ⟨gsx14,0,none⟩) 8 8,.bool false],Ab gsx14 45 ((List.replicate 8 (Ac 0)).flatMap AM),AV rgx15 rvx16 rdx17 rax18 (Dd 23168),AO W B,Ch.many R]→K3 a' w':=by
    intro gv2 a3 w11 h36 s10
    refine hK13 _ _ ?_
    refine sqr fun _ hK14=>fav h36 rfl (Fh _ _) fun _ h37=>st1 h37 s10 4 rfl rfl κ rfl rfl rfl rfl fun _ w12 h38 s11 _=>h38.sn [8,5,2,1,0,3,4,6,7,9,10] rfl fun h39=>hK14 _ _<|sqr fun _ hK15=>fav h39 rfl (IW _ _) fun _ h40=>st1 h40 s11 4 rfl rfl κ rfl rfl rfl rfl fun _ w13 h41 s12 _=>h41.sn [8,5,2,1,0,3,4,6,7,9,10] rfl fun h42=>hK15 _ _ ?_
    refine sqr fun _ hK16=>fav h42 rfl (IX _ _) fun _ h43=>st1 h43 s12 4 rfl rfl κ rfl rfl rfl rfl fun _ w14 h44 s13 _=>h44.sn [8,5,2,1,0,3,4,6,7,9,10] rfl fun h45=>hK16 _ _<|sq fun K4 hK17=>?_
    have hJ169:∀ (gv3:Nat) a' w',Kn 117 [(8,.bool false),(5,.bool true),(2,π g1),(1,π pgx7),(0,.bool false),(3,π gv0),(4,.bool true),(6,π gv1),(7,.bool true),(9,π gv2),(10,.bool true),(11,π gv3),(12,.bool true)] a'→Sep w' [Ab gv3 39 (pk0 (Ai (pL 1 2 6784) 35 [] 0)),Ab gv2 39 (pk0 (Ai (pL 0 1 7808) 31 [] 0)),Ab cgx8 83 (An mgx9 Vk false),Ab gv1 39 (pk0 (Ai (pL 1 1 7808) 0 [] 0)),Ab gv0 39 (pk0 (Ai (pL 1 1 7808) 0 [] 0)),Ab g1 39 (pkC (pL 1 2 6784) none 0 0),Ab pgx7 54 [π mgx9,π cgx8,π rgx15,π dgx13],AJ mgx9 mbx10 mdx11 mpx12 lvM,Ab dgx13 49 [π rgx15,.slice (some ⟨gsx14,0,none⟩) 8 8,.bool false],Ab gsx14 45 ((List.replicate 8 (Ac 0)).flatMap AM),AV rgx15 rvx16 rdx17 rax18 (Dd 23168),AO W B,Ch.many R]→K4 a' w':=by
     intro gv3 a4 w15 h46 s14
     refine hK17 _ _ ?_
     refine sqr fun _ hK18=>fav h46 rfl (CG _ _) fun _ h47=>ldv h47 s14 4 υ28 rfl rfl rfl rfl fun _ h48=>bv h48 (z:=.bool true) rfl (cEq _ _ _ _ rfl) fun _ h49=>mv h49 rfl fun _ h50=>sv h50 (wT h50 (E:=true) rfl rfl rfl) rfl rfl rfl (v:=.bool true) (Aj h50 rfl rfl) fun _ h51=>sv1 h51 rfl (v:=.bool true) (CX h51 rfl rfl rfl) fun _ h52=>mv h52 rfl fun _ h53=>sv h53 (wT h53 (E:=true) rfl rfl rfl) rfl rfl rfl (v:=.bool true) (Aj h53 rfl rfl) fun _ h54=>sv1 h54 rfl (v:=.bool true) (CX h54 rfl rfl rfl) fun _ h55=>?_
     refine mv h55 rfl fun _ h56=>sv h56 (wT h56 (E:=true) rfl rfl rfl) rfl rfl rfl (v:=.pointer (some ⟨gv1,19,none⟩)) (rfa h56 rfl rfl (fun w=>CG gv1 0 w)) fun _ h57=>sw h57 (wT h57 (E:=true) rfl rfl rfl) rfl rfl rfl (v:=ν 0) (rld h57 rfl rfl (ldB υ28 rfl (s14.get 3 rfl:Blk _ _ _ _) rfl)) fun _ h58=>sv h58 (wT h58 (E:=true) rfl rfl rfl) rfl rfl rfl (v:=.bool true) (Cy h58 rfl rfl rfl (cEq _ _ _ _ rfl)) fun _ h59=>sv1 h59 rfl (v:=.bool true) (CX h59 rfl rfl rfl) fun _ h60=>mv h60 rfl fun _ h61=>sv h61 (wT h61 (E:=true) rfl rfl rfl) rfl rfl rfl (v:=.bool true) (Aj h61 rfl rfl) fun _ h62=>sv1 h62 rfl (v:=.bool true) (CX h62 rfl rfl rfl) fun _ h63=>mv h63 rfl fun _ h64=>sv h64 (wT h64 (E:=true) rfl rfl rfl) rfl rfl rfl (v:=.bool false) (Aj h64 rfl rfl) fun _ h65=>?_
     refine sv h65 (wT h65 (E:=true) rfl rfl rfl) rfl rfl rfl (v:=.bool true) (Pa h65 rfl (b:=false) rfl) fun _ h66=>sv1 h66 rfl (v:=.bool true) (CX h66 rfl rfl rfl) fun _ h67=>mv h67 rfl fun _ h68=>sv h68 (wT h68 (E:=true) rfl rfl rfl) rfl rfl rfl (v:=.pointer (some ⟨gv2,19,none⟩)) (rfa h68 rfl rfl (fun w=>CG gv2 0 w)) fun _ h69=>sw h69 (wT h69 (E:=true) rfl rfl rfl) rfl rfl rfl (v:=ν 31) (rld h69 rfl rfl (ldB υ28 rfl (s14.get 1 rfl:Blk _ _ _ _) rfl)) fun _ h70=>sv h70 (wT h70 (E:=true) rfl rfl rfl) rfl rfl rfl (v:=.bool true) (Cy h70 rfl rfl rfl (cEq _ _ _ _ rfl)) fun _ h71=>sv1 h71 rfl (v:=.bool true) (CX h71 rfl rfl rfl) fun _ h72=>mv h72 rfl fun _ h73=>sv h73 (wT h73 (E:=true) rfl rfl rfl) rfl rfl rfl (v:=.bool true) (Aj h73 rfl rfl) fun _ h74=>sv1 h74 rfl (v:=.bool true) (CX h74 rfl rfl rfl) fun _ h75=>?_
     refine mv h75 rfl fun _ h76=>sv h76 (wT h76 (E:=true) rfl rfl rfl) rfl rfl rfl (v:=.pointer (some ⟨gv3,19,none⟩)) (rfa h76 rfl rfl (fun w=>CG gv3 0 w)) fun _ h77=>sw h77 (wT h77 (E:=true) rfl rfl rfl) rfl rfl rfl (v:=ν 35) (rld h77 rfl rfl (ldB υ28 rfl (s14.get 0 rfl:Blk _ _ _ _) rfl)) fun _ h78=>sv h78 (wT h78 (E:=true) rfl rfl rfl) rfl rfl rfl (v:=.bool true) (Cy h78 rfl rfl rfl (cEq _ _ _ _ rfl)) fun _ h79=>sv1 h79 rfl (v:=.bool true) (CX h79 rfl rfl rfl) fun _ h80=>mv h80 rfl fun _ h81=>sv h81 (wT h81 (E:=true) rfl rfl rfl) rfl rfl rfl (v:=.bool true) (Aj h81 rfl rfl) fun _ h82=>sv1 h82 rfl (v:=.bool true) (CX h82 rfl rfl rfl) fun _ h83=>mv h83 rfl fun _ h84=>sv h84 (wT h84 (E:=true) rfl rfl rfl) rfl rfl rfl (v:=π pgx7) (Aj h84 rfl rfl) fun _ h85=>?_
     refine sv h85 (wT h85 (E:=true) rfl rfl rfl) rfl rfl rfl (v:=π pgx7) (Bt h85 rfl rfl) fun _ h86=>sv h86 (wT h86 (E:=true) rfl rfl rfl) rfl rfl rfl (v:=.pointer (some ⟨pgx7,1,none⟩)) (rfa h86 rfl rfl (fun w=>AI pgx7 0 w)) fun _ h87=>sw h87 (wT h87 (E:=true) rfl rfl rfl) rfl rfl rfl (v:=π cgx8) (rld h87 rfl rfl (ldB υ51 rfl (s14.get 6 rfl:Blk _ _ _ _) rfl)) fun _ h88=>so (wT h88 (E:=true) rfl rfl rfl) fun _ hK19=>Bo h88 rfl rfl rfl (xs:=[.tmp 113,.const (ν 2)]) rfl Gm rfl (vs:=[π cgx8,ν 2]) rfl (args:=#[π cgx8,ν 2]) rfl (US (j:=1) (c:=2) (s14.pk [2,0,1,3,4,5,6,7,8,9,10,11,12] rfl) rfl (by decide) rfl) fun _ v5 w16 r5 h89=>hK19 _ _ ?_
     obtain ⟨rfl,s15⟩:=r5
     refine sv h89 (wT h89 (E:=true) rfl rfl rfl) rfl rfl rfl (v:=.bool true) (Cy h89 rfl rfl rfl (cEq _ _ _ _ rfl)) fun _ h90=>sv1 h90 rfl (v:=.bool true) (CX h90 rfl rfl rfl) fun _ h91=>h91.sk [116,115,114,113,112,111,110,109,108,107,106,105,104,103,102,101,100,99,98,97,96,95,94,93,92,91,90,89,88,87,86,85,84,83,82,81,80,79,78,77,76,75,74,73,72,8,5,2,1,3,4,6,7,9,10,11,12] rfl fun h92=>mv h92 rfl fun _ h93=>h93.sn [0,8,5,2,1,3,4,6,7,9,10,11,12] rfl fun h94=>hK18 _ _<|wp_ret ?_
     try simp only [Exit.then,Exit.inBlock]
     refine CO (v:=.bool true) (CN h94 rfl rfl) h94.defs ?_
     exact ⟨rfl,Sep.tail_un (xs:=[_]) (s15.pk [11,12] rfl)⟩
    have s16:=s13.drew
    refine wp_region_held_drew (S:=fun w'=>Sep w' [Ab gv2 39 (pk0 (Ai (pL 0 1 7808) 31 [] 0)),Ab gv1 39 (pk0 (Ai (pL 1 1 7808) 0 [] 0)),Ab gv0 39 (pk0 (Ai (pL 1 1 7808) 0 [] 0)),Ab g1 39 (pkC (pL 1 2 6784) none 0 0),Ab pgx7 54 [π mgx9,π cgx8,π rgx15,π dgx13],Ab dgx13 49 [π rgx15,.slice (some ⟨gsx14,0,none⟩) 8 8,.bool false],Ab gsx14 45 ((List.replicate 8 (Ac 0)).flatMap AM),AV rgx15 rvx16 rdx17 rax18 (Dd 23168),AO W B,Ch.many R]) κ (s16.pk [0,2,3,4,5,7,8,9,10,11] rfl) (fun hq1=>?_)
    refine tv1 hq1 h45 0 rfl rfl (v:=π pgx7) (fun w1 _=>(Aj h45 rfl rfl) w1) fun _ h95=>?_
    refine tv1 hq1 h95 1 rfl rfl (v:=π pgx7) (fun w1 _=>(Bt h95 rfl rfl) w1) fun _ h96=>?_
    refine tv1 hq1 h96 2 rfl rfl (v:=.pointer (some ⟨pgx7,1,none⟩)) (fun w1 _=>(rfa h96 rfl rfl (fun w=>AI pgx7 0 w)) w1) fun _ h97=>?_
    refine tv1 hq1 h97 3 rfl rfl (v:=π cgx8) (fun w1 hSw=>(rld h97 rfl rfl (ldB υ51 rfl (hSw.get 4 rfl:Blk _ _ _ _) rfl))) fun _ h98=>?_
    refine tv1 hq1 h98 4 rfl rfl (v:=.agg (pkC (pL 1 2 6784) none 0 0).toArray) (fun w1 hSw=>(rld h98 rfl rfl (ldA υ39 rfl (n:=43) κ (hSw.get 3 rfl:Blk _ _ _ _) rfl rfl))) fun _ h99=>?_
    refine wpAnyH_ready (rs:=[5,9]) κ (by simp) (toc rfl (wn rfl) (fun K5 hK20=>?_) (toc rfl (wn rfl) (fun K5 hK20=>?_) AllReadyH.nil))
    ·skip
     refine Bo h99 rfl rfl rfl (xs:=[.tmp 67,.tmp 68]) rfl AW rfl (vs:=[π cgx8,.agg (pkC (pL 1 2 6784) none 0 0).toArray]) rfl (args:=#[π cgx8,.agg (pkC (pL 1 2 6784) none 0 0).toArray]) rfl (Hs (s16.pk [1,6,10,0,2,3,4,5,7,8,9,11] rfl) rfl Im hB (Kr (by unfold wfI;decide) (by unfold wfI;decide) (by unfold wfI;decide)) lv4) fun _ v6 w17 r6 h100=>?_
     obtain ⟨rfl,s17⟩:=r6
     refine hK20 _ _ (s17.pk [3,4,5,6,7,8,9,10,2,11] rfl) fun hq2=>?_
     refine tv1 hq2 h100 6 rfl rfl (v:=.tuple #[.agg (pk0 (Ai (pL 1 2 6784) 35 [] 0)).toArray,.bool true]) (fun w1 _=>(Aj h100 rfl rfl) w1) fun _ h101=>?_
     refine tv1 hq2 h101 7 rfl rfl (v:=.agg (pk0 (Ai (pL 1 2 6784) 35 [] 0)).toArray) (fun w1 _=>(DL h101 rfl rfl rfl) w1) fun _ h102=>?_
     refine tv1 hq2 h102 8 rfl rfl (v:=.bool true) (fun w1 _=>(DL h102 rfl rfl rfl) w1) fun _ h103=>?_
     refine to_ 9 rfl (wn rfl) κ fun _ hK21=>Cj h103 rfl rfl rfl rfl (z:=[ν 0,ν 0,ν 0,ν 0,ν 0,ν 0,ν 0,σ [],ν 0,ν 0,ν 0,σ [],σ [],ν 0,ν 0,ν 0,ν 0,σ [],ν 0,ν 0,ν 0,ν 0,σ [],.slice none 0 0,ν 0,ν 0,ν 0,ν 0,ν 0,ν 0,ν 0,ν 0,ν 0,ν 0,ν 0,ν 0,ν 0,ν 0,ν 0,ν 0,ν 0,ν 0,ν 0]) (fun _=>rfl) s17 fun _ g2 w18 h104 s18 _ _=>?_
     refine hK21 _ _ (s18.pk [4,5,6,7,8,9,10,11,3,12] rfl) fun hq3=>?_
     refine to_ 10 rfl (wn rfl) κ fun _ hK22=>BE h104 rfl rfl s18 0 rfl rfl rfl [ν 2,ν ((pL 1 2 6784).I 1),ν ((pL 1 2 6784).I 2),ν ((pL 1 2 6784).I 3),ν ((pL 1 2 6784).I 4),ν 0,ν 0,σ [],ν 0,ν 0,ν 0,σ [],σ [],ν 0,ν 0,ν 0,ν 0,σ [],ν 0,ν 35,ν 0,ν 0,σ [],.slice none 0 0,ν 0,ν 0,ν 0,ν 0,ν 0,ν 0,ν 0,ν 0,ν 0,ν 0,ν 0,ν 0,ν 0,ν 0,ν 0,ν 0,ν 0,ν 0,ν 0] rfl κ rfl (by show 0+43≤43;decide) (L':=[ν 2,ν ((pL 1 2 6784).I 1),ν ((pL 1 2 6784).I 2),ν ((pL 1 2 6784).I 3),ν ((pL 1 2 6784).I 4),ν 0,ν 0,σ [],ν 0,ν 0,ν 0,σ [],σ [],ν 0,ν 0,ν 0,ν 0,σ [],ν 0,ν 35,ν 0,ν 0,σ [],.slice none 0 0,ν 0,ν 0,ν 0,ν 0,ν 0,ν 0,ν 0,ν 0,ν 0,ν 0,ν 0,ν 0,ν 0,ν 0,ν 0,ν 0,ν 0,ν 0,ν 0]) rfl (cs':=[Ab g2 39 (pk0 (Ai (pL 1 2 6784) 35 [] 0)),Ab cgx8 83 (An mgx9 Vk false),AJ mgx9 mbx10 mdx11 mpx12 lvM,AO W B,Ab gv2 39 (pk0 (Ai (pL 0 1 7808) 31 [] 0)),Ab gv1 39 (pk0 (Ai (pL 1 1 7808) 0 [] 0)),Ab gv0 39 (pk0 (Ai (pL 1 1 7808) 0 [] 0)),Ab g1 39 (pkC (pL 1 2 6784) none 0 0),Ab pgx7 54 [π mgx9,π cgx8,π rgx15,π dgx13],Ab dgx13 49 [π rgx15,.slice (some ⟨gsx14,0,none⟩) 8 8,.bool false],Ab gsx14 45 ((List.replicate 8 (Ac 0)).flatMap AM),AV rgx15 rvx16 rdx17 rax18 (Dd 23168),Ch.many R]) rfl fun _ w19 h105 s19 _=>?_
     refine hK22 _ _ (s19.pk [4,5,6,7,8,9,10,11,3,12] rfl) fun hq4=>?_
     refine tv1 hq4 h105 11 rfl rfl (v:=.bool true) (fun w1 _=>(AA h105 rfl rfl) w1) fun _ h106=>?_
     refine h106.sk [12,11,8,5,2,1,0,3,4,6,7,9,10] rfl fun h107=>?_
     refine wpAnyH_done κ ?_ _
     exact hJ169 g2 _ _ (h107.subs rfl) (s19.pk [0,4,1,5,6,7,8,2,9,10,11,3,12] rfl) 
    ·skip
     refine Cj h99 rfl rfl rfl rfl (z:=[ν 0,ν 0,ν 0,ν 0,ν 0,ν 0,ν 0,σ [],ν 0,ν 0,ν 0,σ [],σ [],ν 0,ν 0,ν 0,ν 0,σ [],ν 0,ν 0,ν 0,ν 0,σ [],.slice none 0 0,ν 0,ν 0,ν 0,ν 0,ν 0,ν 0,ν 0,ν 0,ν 0,ν 0,ν 0,ν 0,ν 0,ν 0,ν 0,ν 0,ν 0,ν 0,ν 0]) (fun _=>rfl) s16 fun _ g3 w20 h108 s20 _ _=>hK20 _ _ (s20.pk [1,3,4,5,6,8,9,10,11,12] rfl) fun hq5=>?_
     refine to_ 5 rfl (wn rfl) κ fun _ hK23=>Bo h108 rfl rfl rfl (xs:=[.tmp 67,.tmp 68]) rfl AW rfl (vs:=[π cgx8,.agg (pkC (pL 1 2 6784) none 0 0).toArray]) rfl (args:=#[π cgx8,.agg (pkC (pL 1 2 6784) none 0 0).toArray]) rfl (Hs (s20.pk [2,7,11,0,1,3,4,5,6,8,9,10,12] rfl) rfl Im hB (Kr (by unfold wfI;decide) (by unfold wfI;decide) (by unfold wfI;decide)) lv4) fun _ v7 w21 r7 h109=>?_
     obtain ⟨rfl,s21⟩:=r7
     refine hK23 _ _ (s21.pk [4,5,6,7,8,9,10,11,2,12] rfl) fun hq6=>?_
     refine tv1 hq6 h109 6 rfl rfl (v:=.tuple #[.agg (pk0 (Ai (pL 1 2 6784) 35 [] 0)).toArray,.bool true]) (fun w1 _=>(Aj h109 rfl rfl) w1) fun _ h110=>?_
     refine tv1 hq6 h110 7 rfl rfl (v:=.agg (pk0 (Ai (pL 1 2 6784) 35 [] 0)).toArray) (fun w1 _=>(DL h110 rfl rfl rfl) w1) fun _ h111=>?_
     refine tv1 hq6 h111 8 rfl rfl (v:=.bool true) (fun w1 _=>(DL h111 rfl rfl rfl) w1) fun _ h112=>?_
     refine to_ 10 rfl (wn rfl) κ fun _ hK24=>BE h112 rfl rfl s21 3 rfl rfl rfl [ν 2,ν ((pL 1 2 6784).I 1),ν ((pL 1 2 6784).I 2),ν ((pL 1 2 6784).I 3),ν ((pL 1 2 6784).I 4),ν 0,ν 0,σ [],ν 0,ν 0,ν 0,σ [],σ [],ν 0,ν 0,ν 0,ν 0,σ [],ν 0,ν 35,ν 0,ν 0,σ [],.slice none 0 0,ν 0,ν 0,ν 0,ν 0,ν 0,ν 0,ν 0,ν 0,ν 0,ν 0,ν 0,ν 0,ν 0,ν 0,ν 0,ν 0,ν 0,ν 0,ν 0] rfl κ rfl (by show 0+43≤43;decide) (L':=[ν 2,ν ((pL 1 2 6784).I 1),ν ((pL 1 2 6784).I 2),ν ((pL 1 2 6784).I 3),ν ((pL 1 2 6784).I 4),ν 0,ν 0,σ [],ν 0,ν 0,ν 0,σ [],σ [],ν 0,ν 0,ν 0,ν 0,σ [],ν 0,ν 35,ν 0,ν 0,σ [],.slice none 0 0,ν 0,ν 0,ν 0,ν 0,ν 0,ν 0,ν 0,ν 0,ν 0,ν 0,ν 0,ν 0,ν 0,ν 0,ν 0,ν 0,ν 0,ν 0,ν 0]) rfl (cs':=[Ab cgx8 83 (An mgx9 Vk false),AJ mgx9 mbx10 mdx11 mpx12 lvM,AO W B,Ab g3 39 (pk0 (Ai (pL 1 2 6784) 35 [] 0)),Ab gv2 39 (pk0 (Ai (pL 0 1 7808) 31 [] 0)),Ab gv1 39 (pk0 (Ai (pL 1 1 7808) 0 [] 0)),Ab gv0 39 (pk0 (Ai (pL 1 1 7808) 0 [] 0)),Ab g1 39 (pkC (pL 1 2 6784) none 0 0),Ab pgx7 54 [π mgx9,π cgx8,π rgx15,π dgx13],Ab dgx13 49 [π rgx15,.slice (some ⟨gsx14,0,none⟩) 8 8,.bool false],Ab gsx14 45 ((List.replicate 8 (Ac 0)).flatMap AM),AV rgx15 rvx16 rdx17 rax18 (Dd 23168),Ch.many R]) rfl fun _ w22 h113 s22 _=>?_
     refine hK24 _ _ (s22.pk [4,5,6,7,8,9,10,11,2,12] rfl) fun hq7=>?_
     refine tv1 hq7 h113 11 rfl rfl (v:=.bool true) (fun w1 _=>(AA h113 rfl rfl) w1) fun _ h114=>?_
     refine h114.sk [12,11,8,5,2,1,0,3,4,6,7,9,10] rfl fun h115=>?_
     refine wpAnyH_done κ ?_ _
     exact hJ169 g3 _ _ (h115.subs rfl) (s22.pk [3,4,0,5,6,7,8,1,9,10,11,2,12] rfl) 
   have s23:=s9.drew
   refine wp_region_held_drew (S:=fun w'=>Sep w' [Ab gv1 39 (pk0 (Ai (pL 1 1 7808) 0 [] 0)),Ab gv0 39 (pk0 (Ai (pL 1 1 7808) 0 [] 0)),Ab g1 39 (pkC (pL 0 1 7808) none 0 0),Ab pgx7 54 [π mgx9,π cgx8,π rgx15,π dgx13],Ab dgx13 49 [π rgx15,.slice (some ⟨gsx14,0,none⟩) 8 8,.bool false],Ab gsx14 45 ((List.replicate 8 (Ac 0)).flatMap AM),AV rgx15 rvx16 rdx17 rax18 (Dd 23168),AO W B,Ch.many R]) κ (s23.pk [1,2,3,4,6,7,8,9,10] rfl) (fun hq8=>?_)
   refine tv1 hq8 h35 0 rfl rfl (v:=π pgx7) (fun w1 _=>(Aj h35 rfl rfl) w1) fun _ h116=>?_
   refine tv1 hq8 h116 1 rfl rfl (v:=π pgx7) (fun w1 _=>(Bt h116 rfl rfl) w1) fun _ h117=>?_
   refine tv1 hq8 h117 2 rfl rfl (v:=.pointer (some ⟨pgx7,1,none⟩)) (fun w1 _=>(rfa h117 rfl rfl (fun w=>AI pgx7 0 w)) w1) fun _ h118=>?_
   refine tv1 hq8 h118 3 rfl rfl (v:=π cgx8) (fun w1 hSw=>(rld h118 rfl rfl (ldB υ51 rfl (hSw.get 3 rfl:Blk _ _ _ _) rfl))) fun _ h119=>?_
   refine tv1 hq8 h119 4 rfl rfl (v:=.agg (pkC (pL 0 1 7808) none 0 0).toArray) (fun w1 hSw=>(rld h119 rfl rfl (ldA υ39 rfl (n:=43) κ (hSw.get 2 rfl:Blk _ _ _ _) rfl rfl))) fun _ h120=>?_
   refine wpAnyH_ready (rs:=[5,9]) κ (by simp) (toc rfl (wn rfl) (fun K6 hK25=>?_) (toc rfl (wn rfl) (fun K6 hK25=>?_) AllReadyH.nil))
   ·skip
    refine Bo h120 rfl rfl rfl (xs:=[.tmp 55,.tmp 56]) rfl AW rfl (vs:=[π cgx8,.agg (pkC (pL 0 1 7808) none 0 0).toArray]) rfl (args:=#[π cgx8,.agg (pkC (pL 0 1 7808) none 0 0).toArray]) rfl (Hs (s23.pk [0,5,9,1,2,3,4,6,7,8,10] rfl) rfl Im hB (Kr (by unfold wfI;decide) (by unfold wfI;decide) (by unfold wfI;decide)) lv3) fun _ v8 w23 r8 h121=>?_
    obtain ⟨rfl,s24⟩:=r8
    refine hK25 _ _ (s24.pk [3,4,5,6,7,8,9,2,10] rfl) fun hq9=>?_
    refine tv1 hq9 h121 6 rfl rfl (v:=.tuple #[.agg (pk0 (Ai (pL 0 1 7808) 31 [] 0)).toArray,.bool true]) (fun w1 _=>(Aj h121 rfl rfl) w1) fun _ h122=>?_
    refine tv1 hq9 h122 7 rfl rfl (v:=.agg (pk0 (Ai (pL 0 1 7808) 31 [] 0)).toArray) (fun w1 _=>(DL h122 rfl rfl rfl) w1) fun _ h123=>?_
    refine tv1 hq9 h123 8 rfl rfl (v:=.bool true) (fun w1 _=>(DL h123 rfl rfl rfl) w1) fun _ h124=>?_
    refine to_ 9 rfl (wn rfl) κ fun _ hK26=>Cj h124 rfl rfl rfl rfl (z:=[ν 0,ν 0,ν 0,ν 0,ν 0,ν 0,ν 0,σ [],ν 0,ν 0,ν 0,σ [],σ [],ν 0,ν 0,ν 0,ν 0,σ [],ν 0,ν 0,ν 0,ν 0,σ [],.slice none 0 0,ν 0,ν 0,ν 0,ν 0,ν 0,ν 0,ν 0,ν 0,ν 0,ν 0,ν 0,ν 0,ν 0,ν 0,ν 0,ν 0,ν 0,ν 0,ν 0]) (fun _=>rfl) s24 fun _ g4 w24 h125 s25 _ _=>?_
    refine hK26 _ _ (s25.pk [4,5,6,7,8,9,10,3,11] rfl) fun hq10=>?_
    refine to_ 10 rfl (wn rfl) κ fun _ hK27=>BE h125 rfl rfl s25 0 rfl rfl rfl [ν 2,ν ((pL 0 1 7808).I 1),ν ((pL 0 1 7808).I 2),ν ((pL 0 1 7808).I 3),ν ((pL 0 1 7808).I 4),ν 0,ν 0,σ [],ν 0,ν 0,ν 0,σ [],σ [],ν 0,ν 0,ν 0,ν 0,σ [],ν 0,ν 31,ν 0,ν 0,σ [],.slice none 0 0,ν 0,ν 0,ν 0,ν 0,ν 0,ν 0,ν 0,ν 0,ν 0,ν 0,ν 0,ν 0,ν 0,ν 0,ν 0,ν 0,ν 0,ν 0,ν 0] rfl κ rfl (by show 0+43≤43;decide) (L':=[ν 2,ν ((pL 0 1 7808).I 1),ν ((pL 0 1 7808).I 2),ν ((pL 0 1 7808).I 3),ν ((pL 0 1 7808).I 4),ν 0,ν 0,σ [],ν 0,ν 0,ν 0,σ [],σ [],ν 0,ν 0,ν 0,ν 0,σ [],ν 0,ν 31,ν 0,ν 0,σ [],.slice none 0 0,ν 0,ν 0,ν 0,ν 0,ν 0,ν 0,ν 0,ν 0,ν 0,ν 0,ν 0,ν 0,ν 0,ν 0,ν 0,ν 0,ν 0,ν 0,ν 0]) rfl (cs':=[Ab g4 39 (pk0 (Ai (pL 0 1 7808) 31 [] 0)),Ab cgx8 83 (An mgx9 GZ false),AJ mgx9 mbx10 mdx11 mpx12 lvM,AO W B,Ab gv1 39 (pk0 (Ai (pL 1 1 7808) 0 [] 0)),Ab gv0 39 (pk0 (Ai (pL 1 1 7808) 0 [] 0)),Ab g1 39 (pkC (pL 0 1 7808) none 0 0),Ab pgx7 54 [π mgx9,π cgx8,π rgx15,π dgx13],Ab dgx13 49 [π rgx15,.slice (some ⟨gsx14,0,none⟩) 8 8,.bool false],Ab gsx14 45 ((List.replicate 8 (Ac 0)).flatMap AM),AV rgx15 rvx16 rdx17 rax18 (Dd 23168),Ch.many R]) rfl fun _ w25 h126 s26 _=>?_
    refine hK27 _ _ (s26.pk [4,5,6,7,8,9,10,3,11] rfl) fun hq11=>?_
    refine tv1 hq11 h126 11 rfl rfl (v:=.bool true) (fun w1 _=>(AA h126 rfl rfl) w1) fun _ h127=>?_
    refine h127.sk [10,9,8,5,2,1,0,3,4,6,7] rfl fun h128=>?_
    refine wpAnyH_done κ ?_ _
    exact hJ133 g4 _ _ (h128.subs rfl) (s26.pk [0,1,4,5,6,7,2,8,9,10,3,11] rfl) 
   ·skip
    refine Cj h120 rfl rfl rfl rfl (z:=[ν 0,ν 0,ν 0,ν 0,ν 0,ν 0,ν 0,σ [],ν 0,ν 0,ν 0,σ [],σ [],ν 0,ν 0,ν 0,ν 0,σ [],ν 0,ν 0,ν 0,ν 0,σ [],.slice none 0 0,ν 0,ν 0,ν 0,ν 0,ν 0,ν 0,ν 0,ν 0,ν 0,ν 0,ν 0,ν 0,ν 0,ν 0,ν 0,ν 0,ν 0,ν 0,ν 0]) (fun _=>rfl) s23 fun _ g5 w26 h129 s27 _ _=>hK25 _ _ (s27.pk [2,3,4,5,7,8,9,10,11] rfl) fun hq12=>?_
    refine to_ 5 rfl (wn rfl) κ fun _ hK28=>Bo h129 rfl rfl rfl (xs:=[.tmp 55,.tmp 56]) rfl AW rfl (vs:=[π cgx8,.agg (pkC (pL 0 1 7808) none 0 0).toArray]) rfl (args:=#[π cgx8,.agg (pkC (pL 0 1 7808) none 0 0).toArray]) rfl (Hs (s27.pk [1,6,10,0,2,3,4,5,7,8,9,11] rfl) rfl Im hB (Kr (by unfold wfI;decide) (by unfold wfI;decide) (by unfold wfI;decide)) lv3) fun _ v9 w27 r9 h130=>?_
    obtain ⟨rfl,s28⟩:=r9
    refine hK28 _ _ (s28.pk [4,5,6,7,8,9,10,2,11] rfl) fun hq13=>?_
    refine tv1 hq13 h130 6 rfl rfl (v:=.tuple #[.agg (pk0 (Ai (pL 0 1 7808) 31 [] 0)).toArray,.bool true]) (fun w1 _=>(Aj h130 rfl rfl) w1) fun _ h131=>?_
    refine tv1 hq13 h131 7 rfl rfl (v:=.agg (pk0 (Ai (pL 0 1 7808) 31 [] 0)).toArray) (fun w1 _=>(DL h131 rfl rfl rfl) w1) fun _ h132=>?_
    refine tv1 hq13 h132 8 rfl rfl (v:=.bool true) (fun w1 _=>(DL h132 rfl rfl rfl) w1) fun _ h133=>?_
    refine to_ 10 rfl (wn rfl) κ fun _ hK29=>BE h133 rfl rfl s28 3 rfl rfl rfl [ν 2,ν ((pL 0 1 7808).I 1),ν ((pL 0 1 7808).I 2),ν ((pL 0 1 7808).I 3),ν ((pL 0 1 7808).I 4),ν 0,ν 0,σ [],ν 0,ν 0,ν 0,σ [],σ [],ν 0,ν 0,ν 0,ν 0,σ [],ν 0,ν 31,ν 0,ν 0,σ [],.slice none 0 0,ν 0,ν 0,ν 0,ν 0,ν 0,ν 0,ν 0,ν 0,ν 0,ν 0,ν 0,ν 0,ν 0,ν 0,ν 0,ν 0,ν 0,ν 0,ν 0] rfl κ rfl (by show 0+43≤43;decide) (L':=[ν 2,ν ((pL 0 1 7808).I 1),ν ((pL 0 1 7808).I 2),ν ((pL 0 1 7808).I 3),ν ((pL 0 1 7808).I 4),ν 0,ν 0,σ [],ν 0,ν 0,ν 0,σ [],σ [],ν 0,ν 0,ν 0,ν 0,σ [],ν 0,ν 31,ν 0,ν 0,σ [],.slice none 0 0,ν 0,ν 0,ν 0,ν 0,ν 0,ν 0,ν 0,ν 0,ν 0,ν 0,ν 0,ν 0,ν 0,ν 0,ν 0,ν 0,ν 0,ν 0,ν 0]) rfl (cs':=[Ab cgx8 83 (An mgx9 GZ false),AJ mgx9 mbx10 mdx11 mpx12 lvM,AO W B,Ab g5 39 (pk0 (Ai (pL 0 1 7808) 31 [] 0)),Ab gv1 39 (pk0 (Ai (pL 1 1 7808) 0 [] 0)),Ab gv0 39 (pk0 (Ai (pL 1 1 7808) 0 [] 0)),Ab g1 39 (pkC (pL 0 1 7808) none 0 0),Ab pgx7 54 [π mgx9,π cgx8,π rgx15,π dgx13],Ab dgx13 49 [π rgx15,.slice (some ⟨gsx14,0,none⟩) 8 8,.bool false],Ab gsx14 45 ((List.replicate 8 (Ac 0)).flatMap AM),AV rgx15 rvx16 rdx17 rax18 (Dd 23168),Ch.many R]) rfl fun _ w28 h134 s29 _=>?_
    refine hK29 _ _ (s29.pk [4,5,6,7,8,9,10,2,11] rfl) fun hq14=>?_
    refine tv1 hq14 h134 11 rfl rfl (v:=.bool true) (fun w1 _=>(AA h134 rfl rfl) w1) fun _ h135=>?_
    refine h135.sk [10,9,8,5,2,1,0,3,4,6,7] rfl fun h136=>?_
    refine wpAnyH_done κ ?_ _
    exact hJ133 g5 _ _ (h136.subs rfl) (s29.pk [3,0,4,5,6,7,1,8,9,10,2,11] rfl) 
  have s30:=s6.drew
  refine wp_region_held_drew (S:=fun w'=>Sep w' [Ab gv0 39 (pk0 (Ai (pL 1 1 7808) 0 [] 0)),Ab g1 39 (pkC (pL 1 1 7808) none 0 0),Ab pgx7 54 [π mgx9,π cgx8,π rgx15,π dgx13],Ab dgx13 49 [π rgx15,.slice (some ⟨gsx14,0,none⟩) 8 8,.bool false],Ab gsx14 45 ((List.replicate 8 (Ac 0)).flatMap AM),AV rgx15 rvx16 rdx17 rax18 (Dd 23168),AO W B,Ch.many R]) κ (s30.pk [1,2,3,5,6,7,8,9] rfl) (fun hq15=>?_)
  refine tv1 hq15 h25 0 rfl rfl (v:=π pgx7) (fun w1 _=>(Aj h25 rfl rfl) w1) fun _ h137=>?_
  refine tv1 hq15 h137 1 rfl rfl (v:=π pgx7) (fun w1 _=>(Bt h137 rfl rfl) w1) fun _ h138=>?_
  refine tv1 hq15 h138 2 rfl rfl (v:=.pointer (some ⟨pgx7,1,none⟩)) (fun w1 _=>(rfa h138 rfl rfl (fun w=>AI pgx7 0 w)) w1) fun _ h139=>?_
  refine tv1 hq15 h139 3 rfl rfl (v:=π cgx8) (fun w1 hSw=>(rld h139 rfl rfl (ldB υ51 rfl (hSw.get 2 rfl:Blk _ _ _ _) rfl))) fun _ h140=>?_
  refine tv1 hq15 h140 4 rfl rfl (v:=.agg (pkC (pL 1 1 7808) none 0 0).toArray) (fun w1 hSw=>(rld h140 rfl rfl (ldA υ39 rfl (n:=43) κ (hSw.get 1 rfl:Blk _ _ _ _) rfl rfl))) fun _ h141=>?_
  refine wpAnyH_ready (rs:=[5,9]) κ (by simp) (toc rfl (wn rfl) (fun K7 hK30=>?_) (toc rfl (wn rfl) (fun K7 hK30=>?_) AllReadyH.nil))
  ·skip
   refine Bo h141 rfl rfl rfl (xs:=[.tmp 40,.tmp 41]) rfl AW rfl (vs:=[π cgx8,.agg (pkC (pL 1 1 7808) none 0 0).toArray]) rfl (args:=#[π cgx8,.agg (pkC (pL 1 1 7808) none 0 0).toArray]) rfl (Hs (s30.pk [0,4,8,1,2,3,5,6,7,9] rfl) rfl Im hB (Kr (by unfold wfI;decide) (by unfold wfI;decide) (by unfold wfI;decide)) lv2) fun _ v10 w29 r10 h142=>?_
   obtain ⟨rfl,s31⟩:=r10
   refine hK30 _ _ (s31.pk [3,4,5,6,7,8,2,9] rfl) fun hq16=>?_
   refine tv1 hq16 h142 6 rfl rfl (v:=.tuple #[.agg (pk0 (Ai (pL 1 1 7808) 0 [] 0)).toArray,.bool true]) (fun w1 _=>(Aj h142 rfl rfl) w1) fun _ h143=>?_
   refine tv1 hq16 h143 7 rfl rfl (v:=.agg (pk0 (Ai (pL 1 1 7808) 0 [] 0)).toArray) (fun w1 _=>(DL h143 rfl rfl rfl) w1) fun _ h144=>?_
   refine tv1 hq16 h144 8 rfl rfl (v:=.bool true) (fun w1 _=>(DL h144 rfl rfl rfl) w1) fun _ h145=>?_
   refine to_ 9 rfl (wn rfl) κ fun _ hK31=>Cj h145 rfl rfl rfl rfl (z:=[ν 0,ν 0,ν 0,ν 0,ν 0,ν 0,ν 0,σ [],ν 0,ν 0,ν 0,σ [],σ [],ν 0,ν 0,ν 0,ν 0,σ [],ν 0,ν 0,ν 0,ν 0,σ [],.slice none 0 0,ν 0,ν 0,ν 0,ν 0,ν 0,ν 0,ν 0,ν 0,ν 0,ν 0,ν 0,ν 0,ν 0,ν 0,ν 0,ν 0,ν 0,ν 0,ν 0]) (fun _=>rfl) s31 fun _ g6 w30 h146 s32 _ _=>?_
   refine hK31 _ _ (s32.pk [4,5,6,7,8,9,3,10] rfl) fun hq17=>?_
   refine to_ 10 rfl (wn rfl) κ fun _ hK32=>BE h146 rfl rfl s32 0 rfl rfl rfl [ν 2,ν ((pL 1 1 7808).I 1),ν ((pL 1 1 7808).I 2),ν ((pL 1 1 7808).I 3),ν ((pL 1 1 7808).I 4),ν 0,ν 0,σ [],ν 0,ν 0,ν 0,σ [],σ [],ν 0,ν 0,ν 0,ν 0,σ [],ν 0,ν 0,ν 0,ν 0,σ [],.slice none 0 0,ν 0,ν 0,ν 0,ν 0,ν 0,ν 0,ν 0,ν 0,ν 0,ν 0,ν 0,ν 0,ν 0,ν 0,ν 0,ν 0,ν 0,ν 0,ν 0] rfl κ rfl (by show 0+43≤43;decide) (L':=[ν 2,ν ((pL 1 1 7808).I 1),ν ((pL 1 1 7808).I 2),ν ((pL 1 1 7808).I 3),ν ((pL 1 1 7808).I 4),ν 0,ν 0,σ [],ν 0,ν 0,ν 0,σ [],σ [],ν 0,ν 0,ν 0,ν 0,σ [],ν 0,ν 0,ν 0,ν 0,σ [],.slice none 0 0,ν 0,ν 0,ν 0,ν 0,ν 0,ν 0,ν 0,ν 0,ν 0,ν 0,ν 0,ν 0,ν 0,ν 0,ν 0,ν 0,ν 0,ν 0,ν 0]) rfl (cs':=[Ab g6 39 (pk0 (Ai (pL 1 1 7808) 0 [] 0)),Ab cgx8 83 (An mgx9 GZ false),AJ mgx9 mbx10 mdx11 mpx12 lvM,AO W B,Ab gv0 39 (pk0 (Ai (pL 1 1 7808) 0 [] 0)),Ab g1 39 (pkC (pL 1 1 7808) none 0 0),Ab pgx7 54 [π mgx9,π cgx8,π rgx15,π dgx13],Ab dgx13 49 [π rgx15,.slice (some ⟨gsx14,0,none⟩) 8 8,.bool false],Ab gsx14 45 ((List.replicate 8 (Ac 0)).flatMap AM),AV rgx15 rvx16 rdx17 rax18 (Dd 23168),Ch.many R]) rfl fun _ w31 h147 s33 _=>?_
   refine hK32 _ _ (s33.pk [4,5,6,7,8,9,3,10] rfl) fun hq18=>?_
   refine tv1 hq18 h147 11 rfl rfl (v:=.bool true) (fun w1 _=>(AA h147 rfl rfl) w1) fun _ h148=>?_
   refine h148.sk [7,6,5,2,1,0,3,4] rfl fun h149=>?_
   refine wpAnyH_done κ ?_ _
   exact hJ98 g6 _ _ (h149.subs rfl) (s33.pk [0,1,4,5,6,2,7,8,9,3,10] rfl) 
  ·skip
   refine Cj h141 rfl rfl rfl rfl (z:=[ν 0,ν 0,ν 0,ν 0,ν 0,ν 0,ν 0,σ [],ν 0,ν 0,ν 0,σ [],σ [],ν 0,ν 0,ν 0,ν 0,σ [],ν 0,ν 0,ν 0,ν 0,σ [],.slice none 0 0,ν 0,ν 0,ν 0,ν 0,ν 0,ν 0,ν 0,ν 0,ν 0,ν 0,ν 0,ν 0,ν 0,ν 0,ν 0,ν 0,ν 0,ν 0,ν 0]) (fun _=>rfl) s30 fun _ g7 w32 h150 s34 _ _=>hK30 _ _ (s34.pk [2,3,4,6,7,8,9,10] rfl) fun hq19=>?_
   refine to_ 5 rfl (wn rfl) κ fun _ hK33=>Bo h150 rfl rfl rfl (xs:=[.tmp 40,.tmp 41]) rfl AW rfl (vs:=[π cgx8,.agg (pkC (pL 1 1 7808) none 0 0).toArray]) rfl (args:=#[π cgx8,.agg (pkC (pL 1 1 7808) none 0 0).toArray]) rfl (Hs (s34.pk [1,5,9,0,2,3,4,6,7,8,10] rfl) rfl Im hB (Kr (by unfold wfI;decide) (by unfold wfI;decide) (by unfold wfI;decide)) lv2) fun _ v11 w33 r11 h151=>?_
   obtain ⟨rfl,s35⟩:=r11
   refine hK33 _ _ (s35.pk [4,5,6,7,8,9,2,10] rfl) fun hq20=>?_
   refine tv1 hq20 h151 6 rfl rfl (v:=.tuple #[.agg (pk0 (Ai (pL 1 1 7808) 0 [] 0)).toArray,.bool true]) (fun w1 _=>(Aj h151 rfl rfl) w1) fun _ h152=>?_
   refine tv1 hq20 h152 7 rfl rfl (v:=.agg (pk0 (Ai (pL 1 1 7808) 0 [] 0)).toArray) (fun w1 _=>(DL h152 rfl rfl rfl) w1) fun _ h153=>?_
   refine tv1 hq20 h153 8 rfl rfl (v:=.bool true) (fun w1 _=>(DL h153 rfl rfl rfl) w1) fun _ h154=>?_
   refine to_ 10 rfl (wn rfl) κ fun _ hK34=>BE h154 rfl rfl s35 3 rfl rfl rfl [ν 2,ν ((pL 1 1 7808).I 1),ν ((pL 1 1 7808).I 2),ν ((pL 1 1 7808).I 3),ν ((pL 1 1 7808).I 4),ν 0,ν 0,σ [],ν 0,ν 0,ν 0,σ [],σ [],ν 0,ν 0,ν 0,ν 0,σ [],ν 0,ν 0,ν 0,ν 0,σ [],.slice none 0 0,ν 0,ν 0,ν 0,ν 0,ν 0,ν 0,ν 0,ν 0,ν 0,ν 0,ν 0,ν 0,ν 0,ν 0,ν 0,ν 0,ν 0,ν 0,ν 0] rfl κ rfl (by show 0+43≤43;decide) (L':=[ν 2,ν ((pL 1 1 7808).I 1),ν ((pL 1 1 7808).I 2),ν ((pL 1 1 7808).I 3),ν ((pL 1 1 7808).I 4),ν 0,ν 0,σ [],ν 0,ν 0,ν 0,σ [],σ [],ν 0,ν 0,ν 0,ν 0,σ [],ν 0,ν 0,ν 0,ν 0,σ [],.slice none 0 0,ν 0,ν 0,ν 0,ν 0,ν 0,ν 0,ν 0,ν 0,ν 0,ν 0,ν 0,ν 0,ν 0,ν 0,ν 0,ν 0,ν 0,ν 0,ν 0]) rfl (cs':=[Ab cgx8 83 (An mgx9 GZ false),AJ mgx9 mbx10 mdx11 mpx12 lvM,AO W B,Ab g7 39 (pk0 (Ai (pL 1 1 7808) 0 [] 0)),Ab gv0 39 (pk0 (Ai (pL 1 1 7808) 0 [] 0)),Ab g1 39 (pkC (pL 1 1 7808) none 0 0),Ab pgx7 54 [π mgx9,π cgx8,π rgx15,π dgx13],Ab dgx13 49 [π rgx15,.slice (some ⟨gsx14,0,none⟩) 8 8,.bool false],Ab gsx14 45 ((List.replicate 8 (Ac 0)).flatMap AM),AV rgx15 rvx16 rdx17 rax18 (Dd 23168),Ch.many R]) rfl fun _ w34 h155 s36 _=>?_
   refine hK34 _ _ (s36.pk [4,5,6,7,8,9,2,10] rfl) fun hq21=>?_
   refine tv1 hq21 h155 11 rfl rfl (v:=.bool true) (fun w1 _=>(AA h155 rfl rfl) w1) fun _ h156=>?_
   refine h156.sk [7,6,5,2,1,0,3,4] rfl fun h157=>?_
   refine wpAnyH_done κ ?_ _
   exact hJ98 g7 _ _ (h157.subs rfl) (s36.pk [3,0,4,5,6,1,7,8,9,2,10] rfl) 
 have s37:=s4.drew
 refine wp_region_held_drew (S:=fun w'=>Sep w' [Ab g1 39 (pkC (pL 1 1 7808) none 0 0),Ab pgx7 54 [π mgx9,π cgx8,π rgx15,π dgx13],Ab dgx13 49 [π rgx15,.slice (some ⟨gsx14,0,none⟩) 8 8,.bool false],Ab gsx14 45 ((List.replicate 8 (Ac 0)).flatMap AM),AV rgx15 rvx16 rdx17 rax18 (Dd 23168),AO W B,Ch.many R]) κ (s37.pk [0,2,4,5,6,7,8] rfl) (fun hq22=>?_)
 refine tv1 hq22 h18 0 rfl rfl (v:=π pgx7) (fun w1 _=>(Aj h18 rfl rfl) w1) fun _ h158=>?_
 refine tv1 hq22 h158 1 rfl rfl (v:=π pgx7) (fun w1 _=>(Bt h158 rfl rfl) w1) fun _ h159=>?_
 refine tv1 hq22 h159 2 rfl rfl (v:=.pointer (some ⟨pgx7,1,none⟩)) (fun w1 _=>(rfa h159 rfl rfl (fun w=>AI pgx7 0 w)) w1) fun _ h160=>?_
 refine tv1 hq22 h160 3 rfl rfl (v:=π cgx8) (fun w1 hSw=>(rld h160 rfl rfl (ldB υ51 rfl (hSw.get 1 rfl:Blk _ _ _ _) rfl))) fun _ h161=>?_
 refine tv1 hq22 h161 4 rfl rfl (v:=.agg (pkC (pL 1 1 7808) none 0 0).toArray) (fun w1 hSw=>(rld h161 rfl rfl (ldA υ39 rfl (n:=43) κ (hSw.get 0 rfl:Blk _ _ _ _) rfl rfl))) fun _ h162=>?_
 refine wpAnyH_ready (rs:=[5,9]) κ (by simp) (toc rfl (wn rfl) (fun K8 hK35=>?_) (toc rfl (wn rfl) (fun K8 hK35=>?_) AllReadyH.nil))
 ·skip
  refine Bo h162 rfl rfl rfl (xs:=[.tmp 26,.tmp 27]) rfl AW rfl (vs:=[π cgx8,.agg (pkC (pL 1 1 7808) none 0 0).toArray]) rfl (args:=#[π cgx8,.agg (pkC (pL 1 1 7808) none 0 0).toArray]) rfl (Hs (s37.pk [1,3,7,0,2,4,5,6,8] rfl) rfl Gt hB (Kr (by unfold wfI;decide) (by unfold wfI;decide) (by unfold wfI;decide)) lv1) fun _ v12 w35 r12 h163=>?_
  obtain ⟨rfl,s38⟩:=r12
  refine hK35 _ _ (s38.pk [3,4,5,6,7,2,8] rfl) fun hq23=>?_
  refine tv1 hq23 h163 6 rfl rfl (v:=.tuple #[.agg (pk0 (Ai (pL 1 1 7808) 0 [] 0)).toArray,.bool true]) (fun w1 _=>(Aj h163 rfl rfl) w1) fun _ h164=>?_
  refine tv1 hq23 h164 7 rfl rfl (v:=.agg (pk0 (Ai (pL 1 1 7808) 0 [] 0)).toArray) (fun w1 _=>(DL h164 rfl rfl rfl) w1) fun _ h165=>?_
  refine tv1 hq23 h165 8 rfl rfl (v:=.bool true) (fun w1 _=>(DL h165 rfl rfl rfl) w1) fun _ h166=>?_
  refine to_ 9 rfl (wn rfl) κ fun _ hK36=>Cj h166 rfl rfl rfl rfl (z:=[ν 0,ν 0,ν 0,ν 0,ν 0,ν 0,ν 0,σ [],ν 0,ν 0,ν 0,σ [],σ [],ν 0,ν 0,ν 0,ν 0,σ [],ν 0,ν 0,ν 0,ν 0,σ [],.slice none 0 0,ν 0,ν 0,ν 0,ν 0,ν 0,ν 0,ν 0,ν 0,ν 0,ν 0,ν 0,ν 0,ν 0,ν 0,ν 0,ν 0,ν 0,ν 0,ν 0]) (fun _=>rfl) s38 fun _ g8 w36 h167 s39 _ _=>?_
  refine hK36 _ _ (s39.pk [4,5,6,7,8,3,9] rfl) fun hq24=>?_
  refine to_ 10 rfl (wn rfl) κ fun _ hK37=>BE h167 rfl rfl s39 0 rfl rfl rfl [ν 2,ν ((pL 1 1 7808).I 1),ν ((pL 1 1 7808).I 2),ν ((pL 1 1 7808).I 3),ν ((pL 1 1 7808).I 4),ν 0,ν 0,σ [],ν 0,ν 0,ν 0,σ [],σ [],ν 0,ν 0,ν 0,ν 0,σ [],ν 0,ν 0,ν 0,ν 0,σ [],.slice none 0 0,ν 0,ν 0,ν 0,ν 0,ν 0,ν 0,ν 0,ν 0,ν 0,ν 0,ν 0,ν 0,ν 0,ν 0,ν 0,ν 0,ν 0,ν 0,ν 0] rfl κ rfl (by show 0+43≤43;decide) (L':=[ν 2,ν ((pL 1 1 7808).I 1),ν ((pL 1 1 7808).I 2),ν ((pL 1 1 7808).I 3),ν ((pL 1 1 7808).I 4),ν 0,ν 0,σ [],ν 0,ν 0,ν 0,σ [],σ [],ν 0,ν 0,ν 0,ν 0,σ [],ν 0,ν 0,ν 0,ν 0,σ [],.slice none 0 0,ν 0,ν 0,ν 0,ν 0,ν 0,ν 0,ν 0,ν 0,ν 0,ν 0,ν 0,ν 0,ν 0,ν 0,ν 0,ν 0,ν 0,ν 0,ν 0]) rfl (cs':=[Ab g8 39 (pk0 (Ai (pL 1 1 7808) 0 [] 0)),Ab cgx8 83 (An mgx9 GZ true),AJ mgx9 mbx10 mdx11 mpx12 lvM,AO W B,Ab g1 39 (pkC (pL 1 1 7808) none 0 0),Ab pgx7 54 [π mgx9,π cgx8,π rgx15,π dgx13],Ab dgx13 49 [π rgx15,.slice (some ⟨gsx14,0,none⟩) 8 8,.bool false],Ab gsx14 45 ((List.replicate 8 (Ac 0)).flatMap AM),AV rgx15 rvx16 rdx17 rax18 (Dd 23168),Ch.many R]) rfl fun _ w37 h168 s40 _=>?_
  refine hK37 _ _ (s40.pk [4,5,6,7,8,3,9] rfl) fun hq25=>?_
  refine tv1 hq25 h168 11 rfl rfl (v:=.bool true) (fun w1 _=>(AA h168 rfl rfl) w1) fun _ h169=>?_
  refine h169.sk [4,3,2,1,0] rfl fun h170=>?_
  refine wpAnyH_done κ ?_ _
  exact hJ73 g8 _ _ (h170.subs rfl) (s40.pk [0,4,1,5,2,6,7,8,3,9] rfl) 
 ·skip
  refine Cj h162 rfl rfl rfl rfl (z:=[ν 0,ν 0,ν 0,ν 0,ν 0,ν 0,ν 0,σ [],ν 0,ν 0,ν 0,σ [],σ [],ν 0,ν 0,ν 0,ν 0,σ [],ν 0,ν 0,ν 0,ν 0,σ [],.slice none 0 0,ν 0,ν 0,ν 0,ν 0,ν 0,ν 0,ν 0,ν 0,ν 0,ν 0,ν 0,ν 0,ν 0,ν 0,ν 0,ν 0,ν 0,ν 0,ν 0]) (fun _=>rfl) s37 fun _ g9 w38 h171 s41 _ _=>hK35 _ _ (s41.pk [1,3,5,6,7,8,9] rfl) fun hq26=>?_
  refine to_ 5 rfl (wn rfl) κ fun _ hK38=>Bo h171 rfl rfl rfl (xs:=[.tmp 26,.tmp 27]) rfl AW rfl (vs:=[π cgx8,.agg (pkC (pL 1 1 7808) none 0 0).toArray]) rfl (args:=#[π cgx8,.agg (pkC (pL 1 1 7808) none 0 0).toArray]) rfl (Hs (s41.pk [2,4,8,0,1,3,5,6,7,9] rfl) rfl Gt hB (Kr (by unfold wfI;decide) (by unfold wfI;decide) (by unfold wfI;decide)) lv1) fun _ v13 w39 r13 h172=>?_
  obtain ⟨rfl,s42⟩:=r13
  refine hK38 _ _ (s42.pk [4,5,6,7,8,2,9] rfl) fun hq27=>?_
  refine tv1 hq27 h172 6 rfl rfl (v:=.tuple #[.agg (pk0 (Ai (pL 1 1 7808) 0 [] 0)).toArray,.bool true]) (fun w1 _=>(Aj h172 rfl rfl) w1) fun _ h173=>?_
  refine tv1 hq27 h173 7 rfl rfl (v:=.agg (pk0 (Ai (pL 1 1 7808) 0 [] 0)).toArray) (fun w1 _=>(DL h173 rfl rfl rfl) w1) fun _ h174=>?_
  refine tv1 hq27 h174 8 rfl rfl (v:=.bool true) (fun w1 _=>(DL h174 rfl rfl rfl) w1) fun _ h175=>?_
  refine to_ 10 rfl (wn rfl) κ fun _ hK39=>BE h175 rfl rfl s42 3 rfl rfl rfl [ν 2,ν ((pL 1 1 7808).I 1),ν ((pL 1 1 7808).I 2),ν ((pL 1 1 7808).I 3),ν ((pL 1 1 7808).I 4),ν 0,ν 0,σ [],ν 0,ν 0,ν 0,σ [],σ [],ν 0,ν 0,ν 0,ν 0,σ [],ν 0,ν 0,ν 0,ν 0,σ [],.slice none 0 0,ν 0,ν 0,ν 0,ν 0,ν 0,ν 0,ν 0,ν 0,ν 0,ν 0,ν 0,ν 0,ν 0,ν 0,ν 0,ν 0,ν 0,ν 0,ν 0] rfl κ rfl (by show 0+43≤43;decide) (L':=[ν 2,ν ((pL 1 1 7808).I 1),ν ((pL 1 1 7808).I 2),ν ((pL 1 1 7808).I 3),ν ((pL 1 1 7808).I 4),ν 0,ν 0,σ [],ν 0,ν 0,ν 0,σ [],σ [],ν 0,ν 0,ν 0,ν 0,σ [],ν 0,ν 0,ν 0,ν 0,σ [],.slice none 0 0,ν 0,ν 0,ν 0,ν 0,ν 0,ν 0,ν 0,ν 0,ν 0,ν 0,ν 0,ν 0,ν 0,ν 0,ν 0,ν 0,ν 0,ν 0,ν 0]) rfl (cs':=[Ab cgx8 83 (An mgx9 GZ true),AJ mgx9 mbx10 mdx11 mpx12 lvM,AO W B,Ab g9 39 (pk0 (Ai (pL 1 1 7808) 0 [] 0)),Ab g1 39 (pkC (pL 1 1 7808) none 0 0),Ab pgx7 54 [π mgx9,π cgx8,π rgx15,π dgx13],Ab dgx13 49 [π rgx15,.slice (some ⟨gsx14,0,none⟩) 8 8,.bool false],Ab gsx14 45 ((List.replicate 8 (Ac 0)).flatMap AM),AV rgx15 rvx16 rdx17 rax18 (Dd 23168),Ch.many R]) rfl fun _ w40 h176 s43 _=>?_
  refine hK39 _ _ (s43.pk [4,5,6,7,8,2,9] rfl) fun hq28=>?_
  refine tv1 hq28 h176 11 rfl rfl (v:=.bool true) (fun w1 _=>(AA h176 rfl rfl) w1) fun _ h177=>?_
  refine h177.sk [4,3,2,1,0] rfl fun h178=>?_
  refine wpAnyH_done κ ?_ _
  exact hJ73 g9 _ _ (h178.subs rfl) (s43.pk [3,4,0,5,1,6,7,8,2,9] rfl) 
theorem JZ {w:World} {R:List Ch} (hS:Sep w R):CallsR Tryz.prog 13 #[] w (fun v w'=>v=.bool true∧Sep w' R):=
 CallsR.mono (Se (R:=[]) (Sep.start w) rfl) fun v w' ⟨e,s⟩=>⟨e,hS.mono (s.get 0 rfl:Below _ _ _∧_).1⟩
end
section
open Go.RowKit Go.WideShapes Go.ChangeShapes Go.Deep
theorem SY {H:Type} (d:DataW H):1≤Rows.uptoBulk d:=by
  cases d with
  | lit l=>cases l<;>(unfold Rows.uptoBulk;omega)
  | _=>unfold Rows.uptoBulk;omega
theorem bulk_mem {H:Type}:∀ {l:List (DataW H)} {d:DataW H},d∈l→Rows.uptoBulk d≤Rows.uptoBulkAll l
  | x::l,d,h=>by
    unfold Rows.uptoBulkAll
    rcases List.mem_cons.1 h with rfl | h
    · omega
    · have:=bulk_mem h;omega
theorem NX {H:Type}:∀ (l:List (DataW H)),l.length≤Rows.uptoBulkAll l
  | []=>Nat.zero_le _
  | x::l=>by
    have:=NX l;have:=SY x
    unfold Rows.uptoBulkAll;rw [List.length_cons];omega
theorem SX {H:Type} {xs:List (DataW H×List MemPlace)} {i B:Nat} {y:DataW H×List MemPlace} (h:xs[i]? = some y) (hb:Rows.uptoBulk (DataW.agg (xs.map (·.1)))≤B):Rows.uptoBulk y.1≤B:=by
  have:=bulk_mem (List.mem_map.2 ⟨y,List.mem_of_getElem? h,rfl⟩:y.1∈xs.map (·.1))
  unfold Rows.uptoBulk at hb;omega
theorem Dw {H:Type} {o:Option (DataW H×List MemPlace)} {l:List (DataW H×List MemPlace)} {j B:Nat} (h:o=l[j]?) (hj:j<l.length) (hb:Rows.uptoBulk (DataW.agg (l.map (·.1)))≤B):∃ y,o=some y∧Rows.uptoBulk y.1≤B:=
  ⟨_,h.trans (List.getElem?_eq_getElem hj),SX (List.getElem?_eq_getElem hj) hb⟩
theorem TF {l:List Int} (h0:wfI 0) (h:∀ x∈l,wfI x) (o:Nat):wfI (l.getD o 0):=by
  rw [List.getD_eq_getElem?_getD]
  cases hx:l[o]? with
  | none=>exact h0
  | some v=>exact h v (List.mem_of_getElem? hx)
structure PkIn (W:World) (P:PkM) (a:Option Addr) (c:Nat):Prop where
  wP:wfP P
  S7:shortP P
  hN:∀ s∈P.N,s.length≤1100000
  hn9:P.N.length≤1100000
  row:Row W 1 a P.N.length c (P.N.map AS)
theorem Az {α:Type} {l:List α} {n:Nat} (h:l.length=n+1):∃ x t,l=x::t∧t.length=n:=by
  cases l with
  | nil=>cases h
  | cons x t=>exact ⟨x,t,rfl,by simpa using h⟩
theorem Wi {α:Type} {l:List α} (q0:l.length=43):∃ x0 x1 x2 x3 x4 x5 x6 x7 x8 x9 x10 x11 x12 x13 x14 x15 x16 x17 x18 x19 x20 x21 x22 x23 x24 x25 x26 x27 x28 x29 x30 x31 x32 x33 x34 x35 x36 x37 x38 x39 x40 x41 x42,l=[x0,x1,x2,x3,x4,x5,x6,x7,x8,x9,x10,x11,x12,x13,x14,x15,x16,x17,x18,x19,x20,x21,x22,x23,x24,x25,x26,x27,x28,x29,x30,x31,x32,x33,x34,x35,x36,x37,x38,x39,x40,x41,x42]:=by
  obtain ⟨x0,t0,rfl,q1⟩:=Az (n:=42) q0
  obtain ⟨x1,t1,rfl,q2⟩:=Az (n:=41) q1
  obtain ⟨x2,t2,rfl,q3⟩:=Az (n:=40) q2
  obtain ⟨x3,t3,rfl,q4⟩:=Az (n:=39) q3
  obtain ⟨x4,t4,rfl,q5⟩:=Az (n:=38) q4
  obtain ⟨x5,t5,rfl,q6⟩:=Az (n:=37) q5
  obtain ⟨x6,t6,rfl,q7⟩:=Az (n:=36) q6
  obtain ⟨x7,t7,rfl,q8⟩:=Az (n:=35) q7
  obtain ⟨x8,t8,rfl,q9⟩:=Az (n:=34) q8
  obtain ⟨x9,t9,rfl,q10⟩:=Az (n:=33) q9
  obtain ⟨x10,t10,rfl,q11⟩:=Az (n:=32) q10
  obtain ⟨x11,t11,rfl,q12⟩:=Az (n:=31) q11
  obtain ⟨x12,t12,rfl,q13⟩:=Az (n:=30) q12
  obtain ⟨x13,t13,rfl,q14⟩:=Az (n:=29) q13
  obtain ⟨x14,t14,rfl,q15⟩:=Az (n:=28) q14
  obtain ⟨x15,t15,rfl,q16⟩:=Az (n:=27) q15
  obtain ⟨x16,t16,rfl,q17⟩:=Az (n:=26) q16
  obtain ⟨x17,t17,rfl,q18⟩:=Az (n:=25) q17
  obtain ⟨x18,t18,rfl,q19⟩:=Az (n:=24) q18
  obtain ⟨x19,t19,rfl,q20⟩:=Az (n:=23) q19
  obtain ⟨x20,t20,rfl,q21⟩:=Az (n:=22) q20
  obtain ⟨x21,t21,rfl,q22⟩:=Az (n:=21) q21
  obtain ⟨x22,t22,rfl,q23⟩:=Az (n:=20) q22
  obtain ⟨x23,t23,rfl,q24⟩:=Az (n:=19) q23
  obtain ⟨x24,t24,rfl,q25⟩:=Az (n:=18) q24
  obtain ⟨x25,t25,rfl,q26⟩:=Az (n:=17) q25
  obtain ⟨x26,t26,rfl,q27⟩:=Az (n:=16) q26
  obtain ⟨x27,t27,rfl,q28⟩:=Az (n:=15) q27
  obtain ⟨x28,t28,rfl,q29⟩:=Az (n:=14) q28
  obtain ⟨x29,t29,rfl,q30⟩:=Az (n:=13) q29
  obtain ⟨x30,t30,rfl,q31⟩:=Az (n:=12) q30
  obtain ⟨x31,t31,rfl,q32⟩:=Az (n:=11) q31
  obtain ⟨x32,t32,rfl,q33⟩:=Az (n:=10) q32
  obtain ⟨x33,t33,rfl,q34⟩:=Az (n:=9) q33
  obtain ⟨x34,t34,rfl,q35⟩:=Az (n:=8) q34
  obtain ⟨x35,t35,rfl,q36⟩:=Az (n:=7) q35
  obtain ⟨x36,t36,rfl,q37⟩:=Az (n:=6) q36
  obtain ⟨x37,t37,rfl,q38⟩:=Az (n:=5) q37
  obtain ⟨x38,t38,rfl,q39⟩:=Az (n:=4) q38
  obtain ⟨x39,t39,rfl,q40⟩:=Az (n:=3) q39
  obtain ⟨x40,t40,rfl,q41⟩:=Az (n:=2) q40
  obtain ⟨x41,t41,rfl,q42⟩:=Az (n:=1) q41
  obtain ⟨x42,t42,rfl,q43⟩:=Az (n:=0) q42
  obtain rfl:=List.eq_nil_of_length_eq_zero q43
  exact ⟨x0,x1,x2,x3,x4,x5,x6,x7,x8,x9,x10,x11,x12,x13,x14,x15,x16,x17,x18,x19,x20,x21,x22,x23,x24,x25,x26,x27,x28,x29,x30,x31,x32,x33,x34,x35,x36,x37,x38,x39,x40,x41,x42,rfl⟩
theorem AL {α:Type} {o:Option α} {l:List α} {j:Nat} (h:o=l[j]?) (hj:j<l.length):∃ y,o=some y:=⟨_,h.trans (List.getElem?_eq_getElem hj)⟩
theorem QI {W:World} {x:Addr} {n:ByteArray} (h:W.cell? x=some (.string n)):x.spot=none:=by
  unfold World.cell? at h
  cases hs:x.spot with
  | none=>rfl
  | some q=>simp [hs] at h;split at h<;>simp_all
theorem Sm {H:Type} {enc:TypeId×Value→H} {W:World} {base:Nat} {held:Bool} {a:Value} {d:DataW H×List MemPlace} {fuel:Nat}
    (hf:DataW.trod enc Tryz.prog W base (fun _=>true) held fuel 29 [a]=some d) (hb:Rows.uptoBulk d.1≤1048576):∃ (x:Option Addr) (c:Nat) (N:List (List UInt8)),a=.slice x N.length c∧Row W 1 x N.length c (N.map AS)∧(∀ s∈N,s.length≤1100000)∧N.length≤1100000:=by
  rcases open_strs υ29 υ9 κ hf with ⟨hcs,_⟩ | ⟨x,len,cap,m,Sx,hcs,_,hl,hm,hmm,hd,hi⟩
  · simp at hcs
    exact ⟨none,0,[],hcs,Row.nil _ _,(fun s hs=>by cases hs),Nat.zero_le _⟩
  · simp at hcs
    have hnm:len≤m:=by rw [hmm];split<;>omega
    subst hd
    have hbl:Rows.uptoBulkAll ((List.range len).map fun i=>(DataW.lit (.string (Sx i).data.toList):DataW H))≤1048576:=by
      have e:Rows.uptoBulk (DataW.slice ((List.range len).map fun i=>(DataW.lit (.string (Sx i).data.toList):DataW H)) ((List.range (m-len)).map fun j=>.lit (.string (Sx (len+j)).data.toList)))≤1048576:=hb
      unfold Rows.uptoBulk at e;omega
    refine ⟨some x,cap,(List.range len).map (fun i=>(Sx i).data.toList),by simpa using hcs,⟨by simp,by simpa using hl,hm,(fun h=>by cases h),fun hn=>?_⟩,fun s hs=>?_,?_⟩
    rotate_left
    · obtain ⟨i,hi',rfl⟩:=List.mem_map.1 hs
      have:=bulk_mem (List.mem_map_of_mem (f:=fun i=>(DataW.lit (.string (Sx i).data.toList):DataW H)) hi')
      have e:Rows.uptoBulk (DataW.lit (.string (Sx i).data.toList):DataW H)=(Sx i).data.toList.length+1:=by unfold Rows.uptoBulk;rfl
      omega
    · have:=NX ((List.range len).map fun i=>(DataW.lit (.string (Sx i).data.toList):DataW H))
      rw [List.length_map,List.length_range] at this ⊢;omega
    have hn':0<len:=by simpa using hn
    have hq:=(hi 0 ω).1
    rw [show x.add 0=x from by unfold Addr.add;simp] at hq
    have hsp:=QI hq
    obtain ⟨b,off,sp⟩:=x
    simp at hsp
    subst hsp
    refine ⟨b,off,rfl,World.block_lt_of_cell? W _ hq,fun j u hu=>?_⟩
    have hj:=(List.getElem?_eq_some_iff.1 hu).1
    simp only [List.length_map,List.length_range] at hj
    have h1:=(hi j ω).1
    rw [add_plain] at h1
    simp only [List.getElem?_map,List.getElem?_range hj,Option.map_some,Option.some.injEq] at hu
    rw [h1,← hu];rfl
theorem OG {H:Type} {enc:TypeId×Value→H} {W:World} {base:Nat} {held:Bool} {cs:List Value} {x:DataW H×List MemPlace} {fuel:Nat} (hsz:cs.length=43) (hb:Rows.uptoBulk x.1≤1048576)
    (hf:DataW.trod enc Tryz.prog W base (fun _=>true) held fuel 39 cs=some x) :
    ∃ P a c,cs=pkC P a P.N.length c∧PkIn W P a c:=by
  have kC:Tryz.prog.cellsOf 27=8:=κ
  have kR:Tryz.prog.cellsOf 33=7:=κ
  have kF:Tryz.prog.cellsOf 31=3:=κ
  have kN:Tryz.prog.cellsOf 37=15:=κ
  have k1:Tryz.prog.cellsOf 3=1:=κ
  have kE:Tryz.prog.cellsOf 28=1:=κ
  have kS:Tryz.prog.cellsOf 9=1:=κ
  have kL:Tryz.prog.cellsOf 29=1:=κ
  have k4:Tryz.prog.cellsOf 34=4:=κ
  have k8:Tryz.prog.cellsOf 35=8:=κ
  obtain ⟨x0,x1,x2,x3,x4,x5,x6,x7,x8,x9,x10,x11,x12,x13,x14,x15,x16,x17,x18,x19,x20,x21,x22,x23,x24,x25,x26,x27,x28,x29,x30,x31,x32,x33,x34,x35,x36,x37,x38,x39,x40,x41,x42,rfl⟩:=Wi hsz
  obtain ⟨xs,n,_,hx,hl,hlen,hfZ⟩:=DataW.trod_struct υ39 hf
  clear hf
  subst hx
  have hlen':xs.length=16:=hlen
  obtain ⟨y0,h0⟩:=AL (hfZ 0 _ rfl) ω
  obtain ⟨y1,h1⟩:=AL (hfZ 1 _ rfl) ω
  obtain ⟨y2,h2⟩:=AL (hfZ 2 _ rfl) ω
  obtain ⟨y3,h3⟩:=AL (hfZ 3 _ rfl) ω
  obtain ⟨y4,h4⟩:=AL (hfZ 4 _ rfl) ω
  obtain ⟨y5,h5⟩:=AL (hfZ 5 _ rfl) ω
  obtain ⟨y6,h6⟩:=AL (hfZ 6 _ rfl) ω
  obtain ⟨y7,h7,b7⟩:=Dw (hfZ 7 _ rfl) ω hb
  obtain ⟨y8,h8⟩:=AL (hfZ 8 _ rfl) ω
  obtain ⟨y9,h9⟩:=AL (hfZ 9 _ rfl) ω
  obtain ⟨y10,h10,b10⟩:=Dw (hfZ 10 _ rfl) ω hb
  obtain ⟨y11,h11⟩:=AL (hfZ 11 _ rfl) ω
  obtain ⟨y12,h12⟩:=AL (hfZ 12 _ rfl) ω
  obtain ⟨y13,h13,b13⟩:=Dw (hfZ 13 _ rfl) ω hb
  obtain ⟨y14,h14⟩:=AL (hfZ 14 _ rfl) ω
  obtain ⟨y15,h15⟩:=AL (hfZ 15 _ rfl) ω
  simp [k1,kE,kS,kL,kC,kR,kF,kN,k4,k8] at h0 h1 h2 h3 h4 h5 h6 h7 h8 h9 h10 h11 h12 h13 h14 h15
  obtain ⟨xsC,nC,_,hxC,hlC,hlenC,hfC⟩:=DataW.trod_struct υ27 h10
  subst hxC
  have hlenC':xsC.length=8:=hlenC
  obtain ⟨yC0,hC0⟩:=AL (hfC 0 _ rfl) ω
  obtain ⟨yC1,hC1,bC1⟩:=Dw (hfC 1 _ rfl) ω b10
  obtain ⟨yC2,hC2,bC2⟩:=Dw (hfC 2 _ rfl) ω b10
  obtain ⟨yC3,hC3⟩:=AL (hfC 3 _ rfl) ω
  obtain ⟨yC4,hC4⟩:=AL (hfC 4 _ rfl) ω
  obtain ⟨yC5,hC5⟩:=AL (hfC 5 _ rfl) ω
  obtain ⟨yC6,hC6⟩:=AL (hfC 6 _ rfl) ω
  obtain ⟨yC7,hC7⟩:=AL (hfC 7 _ rfl) ω
  simp [k1,kE,kS,kL,kC,kR,kF,kN,k4,k8] at hC0 hC1 hC2 hC3 hC4 hC5 hC6 hC7
  obtain ⟨xsR,nR,_,hxR,hlR,hlenR,hfR⟩:=DataW.trod_struct υ33 h13
  subst hxR
  have hlenR':xsR.length=5:=hlenR
  obtain ⟨yR0,hR0⟩:=AL (hfR 0 _ rfl) ω
  obtain ⟨yR1,hR1⟩:=AL (hfR 1 _ rfl) ω
  obtain ⟨yR2,hR2⟩:=AL (hfR 2 _ rfl) ω
  obtain ⟨yR3,hR3,bR3⟩:=Dw (hfR 3 _ rfl) ω b13
  obtain ⟨yR4,hR4⟩:=AL (hfR 4 _ rfl) ω
  simp [k1,kE,kS,kL,kC,kR,kF,kN,k4,k8] at hR0 hR1 hR2 hR3 hR4
  obtain ⟨xsF,nF,_,hxF,hlF,hlenF,hfF⟩:=DataW.trod_struct υ31 hR4
  have hlenF':xsF.length=3:=hlenF
  obtain ⟨yF0,hF0⟩:=AL (hfF 0 _ rfl) ω
  obtain ⟨yF1,hF1⟩:=AL (hfF 1 _ rfl) ω
  obtain ⟨yF2,hF2⟩:=AL (hfF 2 _ rfl) ω
  simp [k1,kE,kS,kL,kC,kR,kF,kN,k4,k8] at hF0 hF1 hF2
  obtain ⟨xsN,nN,_,hxN,hlN,hlenN,hfN⟩:=DataW.trod_struct υ37 h15
  have hlenN':xsN.length=5:=hlenN
  obtain ⟨yN0,hN0⟩:=AL (hfN 0 _ rfl) ω
  obtain ⟨yN1,hN1⟩:=AL (hfN 1 _ rfl) ω
  obtain ⟨yN2,hN2⟩:=AL (hfN 2 _ rfl) ω
  obtain ⟨yN3,hN3⟩:=AL (hfN 3 _ rfl) ω
  obtain ⟨yN4,hN4⟩:=AL (hfN 4 _ rfl) ω
  simp [k1,kE,kS,kL,kC,kR,kF,kN,k4,k8] at hN0 hN1 hN2 hN3 hN4
  obtain ⟨ysA,qA,_,_,_,hlyA,hiA⟩:=DataW.trod_array υ34 hN3
  obtain ⟨ysO,qO,_,_,_,hlyO,hiO⟩:=DataW.trod_array υ35 hN4
  have BA:∀ j (hj:j<4),∃ m:Int,[x31,x32,x33,x34][j]'(by simpa using hj)=ν m∧(Lit.int .i64 m).wf=true:=by
    intro j hj
    have h1:=hiA j hj
    rw [k1,Nat.mul_one] at h1
    obtain ⟨y,hy⟩:=AL h1 ω
    obtain ⟨m,e,_,w⟩:=DataW.trod_int υ3 hy
    refine ⟨m,?_,w⟩
    rw [List.drop_eq_getElem_cons (by simpa using hj)] at e
    simpa using e
  obtain ⟨m31,e31,w31⟩:=BA 0 ω
  obtain ⟨m32,e32,w32⟩:=BA 1 ω
  obtain ⟨m33,e33,w33⟩:=BA 2 ω
  obtain ⟨m34,e34,w34⟩:=BA 3 ω
  have BO:∀ j (hj:j<8),∃ m:Int,[x35,x36,x37,x38,x39,x40,x41,x42][j]'(by simpa using hj)=ν m∧(Lit.int .i64 m).wf=true:=by
    intro j hj
    have h1:=hiO j hj
    rw [k1,Nat.mul_one] at h1
    obtain ⟨y,hy⟩:=AL h1 ω
    obtain ⟨m,e,_,w⟩:=DataW.trod_int υ3 hy
    refine ⟨m,?_,w⟩
    rw [List.drop_eq_getElem_cons (by simpa using hj)] at e
    simpa using e
  obtain ⟨m35,e35,w35⟩:=BO 0 ω
  obtain ⟨m36,e36,w36⟩:=BO 1 ω
  obtain ⟨m37,e37,w37⟩:=BO 2 ω
  obtain ⟨m38,e38,w38⟩:=BO 3 ω
  obtain ⟨m39,e39,w39⟩:=BO 4 ω
  obtain ⟨m40,e40,w40⟩:=BO 5 ω
  obtain ⟨m41,e41,w41⟩:=BO 6 ω
  obtain ⟨m42,e42,w42⟩:=BO 7 ω
  obtain ⟨m0,e0,_,w0⟩:=DataW.trod_int υ3 h0
  obtain ⟨m1,e1,_,w1⟩:=DataW.trod_int υ3 h1
  obtain ⟨m2,e2,_,w2⟩:=DataW.trod_int υ3 h2
  obtain ⟨m3,e3,_,w3⟩:=DataW.trod_int υ3 h3
  obtain ⟨m4,e4,_,w4⟩:=DataW.trod_int υ3 h4
  obtain ⟨m5,e5,_,w5⟩:=DataW.trod_int υ3 h5
  obtain ⟨m6,e6,_,w6⟩:=DataW.trod_int υ3 h6
  obtain ⟨s7,e7,g7,_⟩:=DataW.trod_string υ9 h7
  obtain ⟨m8,e8,_,w8⟩:=DataW.trod_int υ3 h8
  obtain ⟨m9,e9,_,w9⟩:=DataW.trod_int υ3 h9
  obtain ⟨m10,e10,_,w10⟩:=DataW.trod_int υ3 hC0
  obtain ⟨s11,e11,g11,_⟩:=DataW.trod_string υ9 hC1
  obtain ⟨s12,e12,g12,_⟩:=DataW.trod_string υ9 hC2
  obtain ⟨m13,e13,_,w13⟩:=DataW.trod_int υ3 hC3
  obtain ⟨m14,e14,_,w14⟩:=DataW.trod_int υ3 hC4
  obtain ⟨m15,e15,_,w15⟩:=DataW.trod_int υ3 hC5
  obtain ⟨m16,e16,_,w16⟩:=DataW.trod_int υ3 hC6
  obtain ⟨s17,e17,_⟩:=DataW.trod_string υ9 hC7
  obtain ⟨m18,e18,_,w18⟩:=DataW.trod_int υ3 h11
  obtain ⟨m19,e19,_,w19⟩:=DataW.trod_int υ28 h12
  obtain ⟨m20,e20,_,w20⟩:=DataW.trod_int υ28 hR0
  obtain ⟨m21,e21,_,w21⟩:=DataW.trod_int υ3 hR1
  obtain ⟨s22,e22,_⟩:=DataW.trod_string υ9 hR2
  obtain ⟨na,nc,N,e23,hrow,hU1,hU2⟩:=Sm hR3 bR3
  obtain ⟨m24,e24,_,w24⟩:=DataW.trod_int υ3 hF0
  obtain ⟨m25,e25,_,w25⟩:=DataW.trod_int υ3 hF1
  obtain ⟨m26,e26,_,w26⟩:=DataW.trod_int υ3 hF2
  obtain ⟨m27,e27,_,w27⟩:=DataW.trod_int υ3 h14
  obtain ⟨m28,e28,_,w28⟩:=DataW.trod_int υ3 hN0
  obtain ⟨m29,e29,_,w29⟩:=DataW.trod_int υ3 hN1
  obtain ⟨m30,e30,_,w30⟩:=DataW.trod_int υ3 hN2
  simp only [List.cons.injEq,and_true,List.getElem_cons_zero,List.getElem_cons_succ] at e0 e1 e2 e3 e4 e5 e6 e7 e8 e9 e10 e11 e12 e13 e14 e15 e16 e17 e18 e19 e20 e21 e22 e24 e25 e26 e27 e28 e29 e30 e31 e32 e33 e34 e35 e36 e37 e38 e39 e40 e41 e42
  subst e0 e1 e2 e3 e4 e5 e6 e7 e8 e9 e10 e11 e12 e13 e14 e15 e16 e17 e18 e19 e20 e21 e22 e23 e24 e25 e26 e27 e28 e29 e30 e31 e32 e33 e34 e35 e36 e37 e38 e39 e40 e41 e42
  refine ⟨⟨fun k=>([m0,m1,m2,m3,m4,m5,m6,0,m8,m9,m10,0,0,m13,m14,m15,m16,0,m18,m19,m20,m21,0,0,m24,m25,m26,m27,m28,m29,m30,m31,m32,m33,m34,m35,m36,m37,m38,m39,m40,m41,m42]:List Int).getD k 0,fun k=>if k=7 then s7.data.toList else if k=11 then s11.data.toList else if k=12 then s12.data.toList else if k=17 then s17.data.toList else if k=22 then s22.data.toList else [],N⟩,na,nc,rfl,TF ⟨ω,ω⟩ ?_,?_,hU1,hU2,hrow⟩
  case refine_2=>
    subst g7 g11 g12
    have z7:s7.data.toList.length≤1048576:=Nat.le_trans (Nat.le_succ _) b7
    have z11:s11.data.toList.length≤1048576:=Nat.le_trans (Nat.le_succ _) bC1
    have z12:s12.data.toList.length≤1048576:=Nat.le_trans (Nat.le_succ _) bC2
    intro o ho
    show (if o=7 then s7.data.toList else if o=11 then s11.data.toList else if o=12 then s12.data.toList else if o=17 then s17.data.toList else if o=22 then s22.data.toList else []).length≤1100000
    split
    · omega
    · split
      · omega
      · split
        · omega
        · rw [if_neg ω,if_neg ω];exact Nat.zero_le _
  intro x hx
  simp only [List.mem_cons,List.not_mem_nil,or_false] at hx
  rcases hx with rfl | rfl | rfl | rfl | rfl | rfl | rfl | rfl | rfl | rfl | rfl | rfl | rfl | rfl | rfl | rfl | rfl | rfl | rfl | rfl | rfl | rfl | rfl | rfl | rfl | rfl | rfl | rfl | rfl | rfl | rfl | rfl | rfl | rfl | rfl | rfl | rfl | rfl | rfl | rfl | rfl | rfl | rfl
  · exact Bb w0
  · exact Bb w1
  · exact Bb w2
  · exact Bb w3
  · exact Bb w4
  · exact Bb w5
  · exact Bb w6
  · exact ⟨ω,ω⟩
  · exact Bb w8
  · exact Bb w9
  · exact Bb w10
  · exact ⟨ω,ω⟩
  · exact ⟨ω,ω⟩
  · exact Bb w13
  · exact Bb w14
  · exact Bb w15
  · exact Bb w16
  · exact ⟨ω,ω⟩
  · exact Bb w18
  · exact Bb w19
  · exact Bb w20
  · exact Bb w21
  · exact ⟨ω,ω⟩
  · exact ⟨ω,ω⟩
  · exact Bb w24
  · exact Bb w25
  · exact Bb w26
  · exact Bb w27
  · exact Bb w28
  · exact Bb w29
  · exact Bb w30
  · exact Bb w31
  · exact Bb w32
  · exact Bb w33
  · exact Bb w34
  · exact Bb w35
  · exact Bb w36
  · exact Bb w37
  · exact Bb w38
  · exact Bb w39
  · exact Bb w40
  · exact Bb w41
  · exact Bb w42
theorem open_pkU {H:Type} {enc:TypeId×Value→H} {W:World} {base base':Nat} {held:Bool} {v:Value} {d:DataW H} {p:List MemPlace}
    (hv:Value.okWide Tryz.prog W .any base' 39 v) (h:DataW.Trod enc Tryz.prog W base (fun _=>true) held 39 v d p) (hb:Rows.uptoBulk d≤1048576) :
    ∃ P a c,v=.agg (pkC P a P.N.length c).toArray∧PkIn W P a c:=by
  obtain ⟨cs,rfl,hsz⟩:=okWide_struct υ39 hv
  have k43:Tryz.prog.cellsOf 39=43:=κ
  obtain ⟨fuel,hf⟩:=h
  obtain ⟨P,a,c,e,hp⟩:=OG (cs:=cs.toList) (by rw [Array.length_toList];exact hsz.trans k43) hb hf
  exact ⟨P,a,c,by rw [← e],hp⟩
structure DeedT20 where
  P:PkM
  pa:Option Addr
  pc:Nat
  st:Bool
  cr:Bool
  qa:Option Addr
  qc:Nat
  qs:List Int
abbrev Te (x:DeedT20):List Value:=Dg x.P x.pa x.P.N.length x.pc x.st x.cr x.qa x.qs.length x.qc
structure DeedOk (W:World) (x:DeedT20):Prop where
  p:PkIn W x.P x.pa x.pc
  q:GB W x.qa x.qc x.qs
  o:Ga x.qs
theorem QD {w:World} {a:Option Addr} {len cap:Nat} {zs:List Int}
    (h:(a=none∧len=0∧cap=0∧zs=[]) ∨
      ∃ x,a=some x∧len≤cap∧cap≤maxLen∧zs.length=cap∧(∀ i,i<zs.length→w.cell? (x.add i)=some (ν (zs.getD i 0)))∧∀ n∈zs,(Lit.int .i64 n).wf=true) :
    ∃ xs:List Int,len=xs.length∧GB w a cap xs∧Ga xs:=by
  rcases h with ⟨rfl,rfl,rfl,_⟩ | ⟨x,rfl,h1,h2,h3,h4,h5⟩
  · exact ⟨[],rfl,Row.nil _ _,fun x hx=>by cases hx⟩
  · refine ⟨zs.take len,by simp;omega,⟨by simp,by simp;omega,h2,(fun h=>by cases h),fun hn=>?_⟩,fun n hn=>Bb (h5 n (List.mem_of_mem_take hn))⟩
    have hn':0<zs.length:=by simp at hn;omega
    have c0:=h4 0 hn'
    rw [show x.add 0=x from by unfold Addr.add;simp] at c0
    have hsp:=Mn c0
    have hx:x=⟨x.block,x.off,none⟩:=by cases x;simp at hsp;simp [hsp]
    refine ⟨x.block,x.off,by rw [← hx],World.block_lt_of_cell? w x c0,fun j u hu=>?_⟩
    have hj:j<(zs.take len).length:=by
      have:=(List.getElem?_eq_some_iff.1 hu).1
      simpa using this
    have hj2:j<zs.length:=by simp at hj;omega
    have hc:=h4 j hj2
    have ea:x.add j=⟨x.block,x.off+j,none⟩:=by
      unfold Addr.add
      split
      · subst j;rw [Nat.add_zero,← hx]
      · rfl
    rw [ea] at hc
    rw [hc]
    have hjl:j<len:=by simp at hj;omega
    simp [List.getElem?_take,hjl,hj2,iV] at hu
    rw [← hu];simp [hj2]
theorem Qx {H:Type} {enc:TypeId×Value→H} {W:World} {base:Nat} {held:Bool} {cs:List Value} {x:DataW H×List MemPlace} {fuel:Nat} (hsz:cs.length=46) (hb:Rows.uptoBulk x.1≤1048576)
    (hf:DataW.trod enc Tryz.prog W base (fun _=>true) held fuel 42 cs=some x) :
    ∃ d:DeedT20,cs=Te d∧DeedOk W d:=by
  have kC:Tryz.prog.cellsOf 39=43:=κ
  have k1:Tryz.prog.cellsOf 4=1:=κ
  have k2:Tryz.prog.cellsOf 40=1:=κ
  obtain ⟨xs,n,_,hx,_,hlen,hg⟩:=DataW.trod_struct υ42 hf
  subst hx
  have hlen':xs.length=4:=hlen
  obtain ⟨y0,h0,b0⟩:=Dw (hg 0 _ rfl) ω hb
  obtain ⟨y1,h1,_⟩:=Dw (hg 1 _ rfl) ω hb
  obtain ⟨y2,h2,_⟩:=Dw (hg 2 _ rfl) ω hb
  obtain ⟨y3,h3,_⟩:=Dw (hg 3 _ rfl) ω hb
  replace h0:DataW.trod enc Tryz.prog W base (fun _=>true) held n 39 ((cs.drop 0).take 43)=some y0:=(congrArg (fun m=>DataW.trod enc Tryz.prog W base (fun _=>true) held n 39 ((cs.drop 0).take m)) kC).symm.trans h0
  replace h1:DataW.trod enc Tryz.prog W base (fun _=>true) held n 4 ((cs.drop 43).take 1)=some y1:=(congrArg (fun m=>DataW.trod enc Tryz.prog W base (fun _=>true) held n 4 ((cs.drop 43).take m)) k1).symm.trans h1
  replace h2:DataW.trod enc Tryz.prog W base (fun _=>true) held n 4 ((cs.drop 44).take 1)=some y2:=(congrArg (fun m=>DataW.trod enc Tryz.prog W base (fun _=>true) held n 4 ((cs.drop 44).take m)) k1).symm.trans h2
  replace h3:DataW.trod enc Tryz.prog W base (fun _=>true) held n 40 ((cs.drop 45).take 1)=some y3:=(congrArg (fun m=>DataW.trod enc Tryz.prog W base (fun _=>true) held n 40 ((cs.drop 45).take m)) k2).symm.trans h3
  obtain ⟨P,a,c,e0,hp⟩:=OG (by rw [List.length_take,List.length_drop,hsz];rfl) b0 h0
  have one:∀ {j:Nat},j<46→∃ u,cs[j]? = some u∧(cs.drop j).take 1=[u]:=fun {j} hj=>by
    refine ⟨cs[j]' ω,List.getElem?_eq_getElem ω,?_⟩
    rw [List.drop_eq_getElem_cons ω];rfl
  obtain ⟨u1,c1,d1⟩:=one (j:=43) ω
  obtain ⟨u2,c2,d2⟩:=one (j:=44) ω
  obtain ⟨u3,c3,d3⟩:=one (j:=45) ω
  rw [show ((cs.drop 43).take 1)=[u1] from d1] at h1
  rw [show ((cs.drop 44).take 1)=[u2] from d2] at h2
  rw [show ((cs.drop 45).take 1)=[u3] from d3] at h3
  obtain ⟨s,q1,_⟩:=DataW.trod_bool υ4 h1
  obtain ⟨r,q2,_⟩:=DataW.trod_bool υ4 h2
  obtain ⟨ia,ic,I,i1,i2,i3⟩:∃ pa pc P,u3=.slice pa (List.length P) pc∧GB W pa pc P∧Ga P:=by
    rcases open_ints υ40 υ3 κ h3 with ⟨hcs,_⟩ | ⟨y,l,c',zs,hcs,_,hl',hm',hz',_,hcell,hwz⟩
    · simp at hcs
      exact ⟨none,0,[],hcs,Row.nil _ _,fun x hx=>by cases hx⟩
    · simp at hcs
      obtain ⟨P,e1,hr,ho⟩:=QD (w:=W) (a:=some y) (len:=l) (cap:=c') (zs:=zs) (.inr ⟨_,rfl,hl',hm',by simpa using hz',hcell,hwz⟩)
      exact ⟨some y,c',P,by rw [hcs,e1],hr,ho⟩
  simp only [List.cons.injEq,and_true] at q1 q2
  subst q1 q2 i1
  refine ⟨⟨P,a,c,s,r,ia,ic,I⟩,?_,hp,i2,i3⟩
  have e:cs=(cs.drop 0).take 43++((cs.drop 43).take 1++((cs.drop 44).take 1++(cs.drop 45).take 1)):=by
    rw [List.take_of_length_le (show (cs.drop 45).length≤1 by rw [List.length_drop];omega),show cs.drop 45=(cs.drop 44).drop 1 from by rw [List.drop_drop],List.take_append_drop,show cs.drop 44=(cs.drop 43).drop 1 from by rw [List.drop_drop],List.take_append_drop,List.drop_zero,List.take_append_drop]
  rw [e,e0,d1,d2,d3];rfl
def SO (W:World) (a:Option Addr) (n c:Nat) (f:Nat→DeedT20):Prop:=ExtA W a n c 46 (fun i=>Te (f i))∧∀ i,i<n→DeedOk W (f i)
theorem Sl {α H:Type} {enc:TypeId×Value→H} {W:World} {base:Nat} {held:Bool} {a:Option Addr} {n c:Nat} {d:DataW H} {p:List MemPlace} {t e:TypeId} {sz:Nat} (z:α) (cells:α→List Value) (good:α→Prop)
    (ht:Tryz.prog.underlying t=some (.slice e)) (hk:Tryz.prog.cellsOf e=sz) (hs:0<sz) (hb:Rows.uptoBulk d≤1048576)
    (hE:∀ (fuel:Nat) (cs:List Value) (x:DataW H×List MemPlace),cs.length=sz→Rows.uptoBulk x.1≤1048576→DataW.trod enc Tryz.prog W base (fun _=>true) held fuel e cs=some x→∃ v,cs=cells v∧good v)
    (h:DataW.Trod enc Tryz.prog W base (fun _=>true) held t (.slice a n c) d p):∃ f:Nat→α,ExtA W a n c sz (fun i=>cells (f i))∧∀ i,i<n→good (f i):=by
  obtain ⟨fuel,hf⟩:=h
  rcases open_slice ht hf with ⟨hcs,_⟩ | ⟨x,len,cap,m,q,D,Pl,hcs,_,hl,hm,hmm,hd,hi⟩
  · simp [Value.cells] at hcs
    obtain ⟨rfl,rfl,rfl⟩:=hcs
    exact ⟨fun _=>z,⟨Nat.le_refl _,Nat.zero_le _,fun h=>absurd h ω⟩,fun i h=>absurd h ω⟩
  · simp [Value.cells] at hcs
    obtain ⟨rfl,rfl,rfl⟩:=hcs
    have hd1:=(Prod.mk.inj hd).1
    subst hd1
    have hnm:n≤m:=by rw [hmm];split<;>omega
    have one:∀ i,∃ v:α,i<n→(cells v).length=sz∧(∀ (j:Nat) u,(cells v)[j]? = some u→W.cell? ((x.add (i*sz)).add j)=some u)∧good v:=by
      intro i
      by_cases hlt:i<n
      · obtain ⟨cs',hc,htr⟩:=hi i ω
        rw [hk] at hc
        obtain ⟨_,hlen,hat⟩:=World.cells?_some hc
        have hbi:Rows.uptoBulk (D i)≤1048576:=by
          have:=bulk_mem (List.mem_map_of_mem (f:=D) (List.mem_range.2 hlt))
          unfold Rows.uptoBulk at hb;omega
        obtain ⟨v,e1,hg⟩:=hE q cs' _ hlen hbi htr
        subst e1
        refine ⟨v,fun _=>⟨hlen,fun j u hj=>?_,hg⟩⟩
        obtain ⟨h1,h2⟩:=List.getElem?_eq_some_iff.1 hj
        have:=hat j ω
        rw [this,← h2]
        exact List.getElem?_eq_getElem h1
      · exact ⟨z,fun h=>absurd h hlt⟩
    obtain ⟨f,hf⟩:=Classical.skolem.1 one
    refine ⟨f,⟨hl,hm,fun hn=>?_⟩,fun i hi=>(hf i hi).2.2⟩
    have hl0:=(hf 0 hn).1
    obtain ⟨u,hu⟩:∃ u,(cells (f 0))[0]? = some u:=⟨_,List.getElem?_eq_getElem ω⟩
    have hq:=(hf 0 hn).2.1 0 u hu
    rw [Nat.zero_mul,show (x.add 0).add 0=x from by unfold Addr.add;simp] at hq
    have hsp:=Mn hq
    obtain ⟨b,off,sp⟩:=x
    simp at hsp
    subst hsp
    refine ⟨b,off,rfl,?_,fun i hi j v hj=>?_⟩
    · exact World.block_lt_of_cell? W _ hq
    · have h0:=(hf i hi).2.1 j v hj
      rw [Addr.add_mid,Addr.add_mid] at h0
      exact h0
theorem open_deeds20 {H:Type} {enc:TypeId×Value→H} {W:World} {base:Nat} {held:Bool} {a:Option Addr} {n c:Nat} {d:DataW H} {p:List MemPlace}
    (h:DataW.Trod enc Tryz.prog W base (fun _=>true) held 22 (.slice a n c) d p) (hb:Rows.uptoBulk d≤1048576):∃ f,SO W a n c f:=
  Sl ⟨P0z,none,0,false,false,none,0,[]⟩ Te (DeedOk W) υ22 κ (by decide) hb (fun _ _ _ h1 h2 h3=>Qx h1 h2 h3) h
end
end Go.Proofs.YtjgajoljgepioaaGreat
