/- Parts of the proof. -/
import Derived.Laws.EntriesVeiled
import Derived.Test.YtbfgjinpchbajaaGreatDoorQad
namespace Go.Proofs.YtbfgjinpchbajaaGreatDoor
open Go.RowKit
open _root_.Go.Proofs.Tryz
set_option linter.unusedSimpArgs false
set_option linter.unusedVariables false
set_option linter.unusedSectionVars false
set_option maxRecDepth 100000
set_option maxHeartbeats 8000000
section
theorem Abf (x y:Operand) (v u:Int) (w:World) {b:Bool} (h:(v == u)=b):(do eqGuard .eql 5 x y (.int .u8 v) (.int .u8 u);binOp .eql 5 (.int .u8 v) (.int .u8 u):Sem Value).run prog w=.ok (.bool b) w:=by
  have u3:=υ5
  have a3:=Tryz.isAgg5
  have z3:=Tryz.sizeOf5
  subst h
  go_simp
theorem Aie (x y:Operand) (v u:Int) (w:World) {b:Bool} (h:decide (v<u)=b):(do eqGuard .lss 5 x y (.int .u8 v) (.int .u8 u);binOp .lss 5 (.int .u8 v) (.int .u8 u):Sem Value).run prog w=.ok (.bool b) w:=by
  have u3:=υ5
  have a3:=Tryz.isAgg5
  have z3:=Tryz.sizeOf5
  subst h
  go_simp
theorem Aa3 (l:Λ) (i:Nat) (x:UInt8) (h:l[i]? = some x):∃ hi:i<(bsB l).size,(bsB l)[i]=x:=by
  obtain ⟨h1,h2⟩:=List.getElem?_eq_some_iff.1 h
  exact ⟨by rw [Cr];exact h1,by simpa [bsB,ByteArray.getElem_eq_getElem_data] using h2⟩
theorem Tb (l:Λ) (i:Nat) (x:UInt8) (h:l[i]? = some x) (w:World):(Instr.index 9 (Ap l) (ν (i:Int))).run prog w=.ok (Ag x) w:=by
  have u9:=υ9
  obtain ⟨h1,h2⟩:=Aa3 l i x h
  have h3:=Cr l
  have d0:0≤(i:Int):=ω
  have d1:(i:Int)<((bsB l).size:Int):=ω
  unfold Ap
  go_simp
  rw [if_pos ω]
  rfl
theorem UL (s:Λ) (m n:Nat):(bsB s).extract m n=bsB ((s.take n).drop m):=by
  apply ByteArray.ext
  apply Array.toList_inj.1
  simp [bsB,ByteArray.data_extract]
  rw [List.drop_take]
theorem Aim (s:Λ) (n:Nat) (hn:n≤s.length) (w:World):(Instr.sliceAt 9 (Ap s) none (some (ν (n:Int))) none).run prog w=.ok (Ap (s.take n)) w:=by
  have u9:=υ9
  have hsz:=Cr s
  have e:=UL s 0 n
  rw [List.drop_zero] at e
  have d0:0≤(n:Int):=ω
  have d1:(n:Int)≤((bsB s).size:Int):=ω
  have d2:n≤(bsB s).size:=ω
  unfold Ap
  go_simp
theorem Ahh (s:Λ) (n:Nat) (hn:n≤s.length) (w:World):(Instr.sliceAt 9 (Ap s) (some (ν (n:Int))) none none).run prog w=.ok (Ap (s.drop n)) w:=by
  have u9:=υ9
  have hsz:=Cr s
  have e:=UL s n s.length
  rw [List.take_length] at e
  have d0:0≤(n:Int):=ω
  have d1:(n:Int)≤((bsB s).size:Int):=ω
  have d2:n≤(bsB s).size:=ω
  unfold Ap
  go_simp
theorem Xl (l:Λ) (hl:l.length≤1000000) (w:World):Calls prog 152 #[Ap l,Ag 0] w fun e w'=>∃ v,e=.returned v∧∃ k,k≤l.length∧v=Ap (l.take k)∧(∀ i (hi:i<l.length),k≤i→l[i]=0)∧(k=0∨∃ h:k-1<l.length,l[k-1]≠0)∧w'=w:=by
  go_enter func152,ntmps152
  iterate 3 go_step
  refine AU (N:=23) (l:=[(0,Ap l),(1,Ag 0)]) ⟨rfl,(by intro x hx;simp only [List.mem_cons,List.not_mem_nil,or_false] at hx;rcases hx with rfl | rfl<;>rfl),rfl⟩ fun a2 h1=>wv h1 rfl rfl rfl rfl (Ap []) (by unfold execOp;rfl) fun a4 h3=>?_
  iterate 5 go_step
  refine h3.sk [0,4,1] rfl fun h5=>?_
  refine wp_loop (I:=fun a' w'=>∃ k:Nat,k≤l.length∧Kn 23 [(0,Ap (l.take k)),(4,Ap []),(1,Ag 0)] a'∧(∀ i (hi:i<l.length),k≤i→l[i]=0)∧w'=w) (μ:=fun a' _=>match a'.eval (.tmp 0) with | .string s=>s.size | _=>0) ⟨l.length,Nat.le_refl _,by rw [List.take_length];exact h5,fun i hi h2=>absurd h2 ω,rfl⟩ ?_
  clear h5
  rintro aL wL ⟨k,hk,hK,hz,rfl⟩
  have hcl:(l.take k).length=k:=by rw [List.length_take];omega
  by_cases hp:0<k
  · have hpos:decide ((0:Int)<(k:Int))=true:=decide_eq_true ω
    obtain ⟨x,hx⟩:∃ x,x=l[k-1]:=⟨_,rfl⟩
    have hix:(l.take k)[(k-1:Nat)]? = some x:=by rw [List.getElem?_take,if_pos ω,List.getElem?_eq_getElem ω,hx]
    by_cases hx0:x=0
    · have heq:((x.toNat:Int) == ((0:UInt8).toNat:Int))=true:=by rw [hx0];rfl
      have hnx:Ap (l.take (k-1))=Ap ((l.take k).take (k-1)):=by rw [List.take_take,Nat.min_eq_left ω]
      iterate 4 go_step
      refine mv hK rfl fun _ h6=>wv h6 rfl rfl rfl rfl (ν (k:Int)) (by rw [Ca rfl (h6.ev 5 rfl) _];rw [hcl]) fun a9 h8=>wv h8 rfl rfl rfl rfl (.bool true) (by unfold execOp;simp only [h8.ev 6 rfl];exact Ad (FL _ _ _ _ _ hpos)) fun a1 h4=>mv h4 rfl fun _ h7=>Ak h7 (by rw [Ac (g:=3) (want:=true) (b:=true) rfl (h7.yields (prev:=8) rfl (by simp))];rfl) rfl (by decide) (fr rfl) (Ap (l.take k)) (by unfold execOp;simp only [h7.ev 0 rfl];rfl) fun a3 h9=>Ak h9 (by rw [Ac (g:=3) (want:=true) (b:=true) rfl (h9.yields (prev:=8) rfl (by simp))];rfl) rfl (by decide) (fr rfl) (Ap (l.take k)) (by unfold execOp;simp only [h9.ev 0 rfl];rfl) fun a5 h10=>Ak h10 (by rw [Ac (g:=3) (want:=true) (b:=true) rfl (h10.yields (prev:=8) rfl (by simp))];rfl) rfl (by decide) (fr rfl) (ν (k:Int)) (by rw [Ca rfl (h10.ev 10 rfl) _];rw [hcl]) fun a6 h11=>Ak h11 (by rw [Ac (g:=3) (want:=true) (b:=true) rfl (h11.yields (prev:=8) rfl (by simp))];rfl) rfl (by decide) (fr rfl) (ν ((k-1:Nat):Int)) (by unfold execOp;simp only [h11.ev 11 rfl];exact Ad (Fb _ _ _ _ _ ω ω ω _)) fun a7 h12=>Ak h12 (by rw [Ac (g:=3) (want:=true) (b:=true) rfl (h12.yields (prev:=8) rfl (by simp))];rfl) rfl (by decide) (fr rfl) (Ag x) (by unfold execOp;simp only [h12.ev 9 rfl,h12.ev 12 rfl];exact Ad (Tb _ _ _ hix _)) fun a8 h13=>Ak h13 (by rw [Ac (g:=3) (want:=true) (b:=true) rfl (h13.yields (prev:=8) rfl (by simp))];rfl) rfl (by decide) (fr rfl) (Ag 0) (by unfold execOp;simp only [h13.ev 1 rfl];rfl) fun a10 h14=>?_
      refine Ak h14 (by rw [Ac (g:=3) (want:=true) (b:=true) rfl (h14.yields (prev:=8) rfl (by simp))];rfl) rfl (by decide) (fr rfl) (.bool true) (by unfold execOp;simp only [h14.ev 13 rfl,h14.ev 14 rfl];exact Ad (Abf _ _ _ _ _ heq)) fun a11 h15=>wv h15 rfl rfl rfl rfl (.bool true) (Bf rfl (h15.ev 8 rfl) (by rw [if_pos rfl];exact h15.ev 15 rfl)) fun a12 h16=>h16.sk [16,0,4,1] rfl fun h17=>?_
      iterate 3 go_step
      refine wp_cond (t:=true) (h17.ev 16 rfl) ?_
      simp only [if_true]
      refine h17.sk [0,4,1] rfl fun h18=>?_
      iterate 5 go_step
      refine mv h18 rfl fun _ h19=>mv h19 rfl fun _ h20=>wv h20 rfl rfl rfl rfl (ν (k:Int)) (by rw [Ca rfl (h20.ev 18 rfl) _];rw [hcl]) fun a13 h21=>wv h21 rfl rfl rfl rfl (ν ((k-1:Nat):Int)) (by unfold execOp;simp only [h21.ev 19 rfl];exact Ad (Fb _ _ _ _ _ ω ω ω _)) fun a14 h22=>wv h22 rfl rfl rfl rfl (Ap (l.take (k-1))) (by unfold execOp;simp only [Option.map_some,Option.map_none,h22.ev 17 rfl,h22.ev 20 rfl];exact Ad (by rw [hnx];exact Aim (l.take k) (k-1) (by rw [hcl];omega) _)) fun a15 h23=>h23.sk [21,20,19,18,17,4,1] rfl fun h24=>mv h24 rfl fun _ h25=>h25.sk [0,4,1] rfl fun h26=>?_
      iterate 2 go_step
      refine ⟨⟨k-1,ω,h26.subs rfl,fun i hi h2=>?_,rfl⟩,?_⟩
      · by_cases e:i=k-1
        · subst e;rw [← hx,hx0]
        · exact hz i hi ω
      · rw [h26.ev 0 rfl,hK.ev 0 rfl];show (bsB _).size<(bsB _).size;rw [Cr,Cr,hcl];rw [List.length_take];omega
    · have heq:((x.toNat:Int) == ((0:UInt8).toNat:Int))=false:=by simp;intro q;exact hx0 (UInt8.toNat_inj.1 (by simpa using q))
      have hend:k=0∨∃ h:k-1<l.length,l[k-1]≠0:=.inr ⟨ω,by rw [← hx];exact hx0⟩
      iterate 4 go_step
      refine mv hK rfl fun _ h27=>wv h27 rfl rfl rfl rfl (ν (k:Int)) (by rw [Ca rfl (h27.ev 5 rfl) _];rw [hcl]) fun a16 h28=>wv h28 rfl rfl rfl rfl (.bool true) (by unfold execOp;simp only [h28.ev 6 rfl];exact Ad (FL _ _ _ _ _ hpos)) fun a17 h29=>mv h29 rfl fun _ h30=>Ak h30 (by rw [Ac (g:=3) (want:=true) (b:=true) rfl (h30.yields (prev:=8) rfl (by simp))];rfl) rfl (by decide) (fr rfl) (Ap (l.take k)) (by unfold execOp;simp only [h30.ev 0 rfl];rfl) fun a18 h31=>Ak h31 (by rw [Ac (g:=3) (want:=true) (b:=true) rfl (h31.yields (prev:=8) rfl (by simp))];rfl) rfl (by decide) (fr rfl) (Ap (l.take k)) (by unfold execOp;simp only [h31.ev 0 rfl];rfl) fun a19 h32=>Ak h32 (by rw [Ac (g:=3) (want:=true) (b:=true) rfl (h32.yields (prev:=8) rfl (by simp))];rfl) rfl (by decide) (fr rfl) (ν (k:Int)) (by rw [Ca rfl (h32.ev 10 rfl) _];rw [hcl]) fun a20 h33=>Ak h33 (by rw [Ac (g:=3) (want:=true) (b:=true) rfl (h33.yields (prev:=8) rfl (by simp))];rfl) rfl (by decide) (fr rfl) (ν ((k-1:Nat):Int)) (by unfold execOp;simp only [h33.ev 11 rfl];exact Ad (Fb _ _ _ _ _ ω ω ω _)) fun a21 h34=>Ak h34 (by rw [Ac (g:=3) (want:=true) (b:=true) rfl (h34.yields (prev:=8) rfl (by simp))];rfl) rfl (by decide) (fr rfl) (Ag x) (by unfold execOp;simp only [h34.ev 9 rfl,h34.ev 12 rfl];exact Ad (Tb _ _ _ hix _)) fun a22 h35=>Ak h35 (by rw [Ac (g:=3) (want:=true) (b:=true) rfl (h35.yields (prev:=8) rfl (by simp))];rfl) rfl (by decide) (fr rfl) (Ag 0) (by unfold execOp;simp only [h35.ev 1 rfl];rfl) fun a23 h36=>?_
      refine Ak h36 (by rw [Ac (g:=3) (want:=true) (b:=true) rfl (h36.yields (prev:=8) rfl (by simp))];rfl) rfl (by decide) (fr rfl) (.bool false) (by unfold execOp;simp only [h36.ev 13 rfl,h36.ev 14 rfl];exact Ad (Abf _ _ _ _ _ heq)) fun a24 h37=>wv h37 rfl rfl rfl rfl (.bool false) (Bf rfl (h37.ev 8 rfl) (by rw [if_pos rfl];exact h37.ev 15 rfl)) fun a25 h38=>h38.sk [16,0,4,1] rfl fun h39=>?_
      iterate 3 go_step
      refine wp_cond (t:=false) (h39.ev 16 rfl) ?_
      simp only [Bool.false_eq_true,if_false]
      refine h39.sk [0,4,1] rfl fun h40=>?_
      iterate 7 go_step
      refine mv h40 rfl fun _ h41=>h41.sk [22,0,1] rfl fun h42=>mv h42 rfl fun _ h43=>h43.sk [4,0,1] rfl fun h44=>?_
      iterate 4 go_step
      refine bodyPost_ret (AJ rfl (h44.known (4,Ap (l.take k)) (by simp))) h44.defs ?_
      exact ⟨_,rfl,k,hk,rfl,hz,hend,rfl⟩
  · have hpos:decide ((0:Int)<(k:Int))=false:=decide_eq_false ω
    have hend:k=0∨∃ h:k-1<l.length,l[k-1]≠0:=.inl ω
    iterate 4 go_step
    refine mv hK rfl fun _ h45=>wv h45 rfl rfl rfl rfl (ν (k:Int)) (by rw [Ca rfl (h45.ev 5 rfl) _];rw [hcl]) fun a26 h46=>wv h46 rfl rfl rfl rfl (.bool false) (by unfold execOp;simp only [h46.ev 6 rfl];exact Ad (FL _ _ _ _ _ hpos)) fun a27 h47=>mv h47 rfl fun _ h48=>AG h48 (by rw [Ac (g:=3) (want:=true) (b:=false) rfl (h48.yields (prev:=8) rfl (by simp))];rfl) rfl (by decide) (fr rfl) fun a28 h49=>AG h49 (by rw [Ac (g:=3) (want:=true) (b:=false) rfl (h49.yields (prev:=8) rfl (by simp))];rfl) rfl (by decide) (fr rfl) fun a29 h50=>AG h50 (by rw [Ac (g:=3) (want:=true) (b:=false) rfl (h50.yields (prev:=8) rfl (by simp))];rfl) rfl (by decide) (fr rfl) fun a30 h51=>AG h51 (by rw [Ac (g:=3) (want:=true) (b:=false) rfl (h51.yields (prev:=8) rfl (by simp))];rfl) rfl (by decide) (fr rfl) fun a31 h52=>AG h52 (by rw [Ac (g:=3) (want:=true) (b:=false) rfl (h52.yields (prev:=8) rfl (by simp))];rfl) rfl (by decide) (fr rfl) fun a32 h53=>AG h53 (by rw [Ac (g:=3) (want:=true) (b:=false) rfl (h53.yields (prev:=8) rfl (by simp))];rfl) rfl (by decide) (fr rfl) fun a33 h54=>?_
    refine AG h54 (by rw [Ac (g:=3) (want:=true) (b:=false) rfl (h54.yields (prev:=8) rfl (by simp))];rfl) rfl (by decide) (fr rfl) fun a34 h55=>wv h55 rfl rfl rfl rfl (.bool false) (Bf rfl (h55.ev 8 rfl) rfl) fun a35 h56=>h56.sk [16,0,4,1] rfl fun h57=>?_
    iterate 3 go_step
    refine wp_cond (t:=false) (h57.ev 16 rfl) ?_
    simp only [Bool.false_eq_true,if_false]
    refine h57.sk [0,4,1] rfl fun h58=>?_
    iterate 7 go_step
    refine mv h58 rfl fun _ h59=>h59.sk [22,0,1] rfl fun h60=>mv h60 rfl fun _ h61=>h61.sk [4,0,1] rfl fun h62=>?_
    iterate 4 go_step
    refine bodyPost_ret (AJ rfl (h62.known (4,Ap (l.take k)) (by simp))) h62.defs ?_
    exact ⟨_,rfl,k,hk,rfl,hz,hend,rfl⟩
theorem Xk (l:Λ) (hl:l.length≤1000000) (w:World):Calls prog 151 #[Ap l,Ag 0] w fun e w'=>∃ v,e=.returned v∧∃ k,k≤l.length∧v=Ap (l.drop k)∧(∀ i (hi:i<l.length),i<k→l[i]=0)∧(k=l.length∨∃ h:k<l.length,l[k]≠0)∧w'=w:=by
  go_enter func151,ntmps151
  iterate 3 go_step
  refine AU (N:=17) (l:=[(0,Ap l),(1,Ag 0)]) ⟨rfl,(by intro x hx;simp only [List.mem_cons,List.not_mem_nil,or_false] at hx;rcases hx with rfl | rfl<;>rfl),rfl⟩ fun a2 h1=>wv h1 rfl rfl rfl rfl (Ap []) (by unfold execOp;rfl) fun a4 h3=>?_
  iterate 5 go_step
  refine h3.sk [0,4,1] rfl fun h5=>?_
  refine wp_loop (I:=fun a' w'=>∃ k:Nat,k≤l.length∧Kn 17 [(0,Ap (l.drop k)),(4,Ap []),(1,Ag 0)] a'∧(∀ i (hi:i<l.length),i<k→l[i]=0)∧w'=w) (μ:=fun a' _=>match a'.eval (.tmp 0) with | .string s=>s.size | _=>0) ⟨0,Nat.zero_le _,by rw [List.drop_zero];exact h5,fun i hi h2=>absurd h2 ω,rfl⟩ ?_
  clear h5
  rintro aL wL ⟨k,hk,hK,hz,rfl⟩
  have hcl:(l.drop k).length=(l.length-k:Nat):=by rw [List.length_drop]
  by_cases hp:k<l.length
  · have hpos:decide ((0:Int)<((l.length-k:Nat):Int))=true:=decide_eq_true ω
    obtain ⟨x,hx⟩:∃ x,x=l[k]:=⟨_,rfl⟩
    have hix:(l.drop k)[(0:Nat)]? = some x:=by rw [List.getElem?_drop,Nat.add_zero,List.getElem?_eq_getElem hp,hx]
    by_cases hx0:x=0
    · have heq:((x.toNat:Int) == ((0:UInt8).toNat:Int))=true:=by rw [hx0];rfl
      have hnx:Ap (l.drop (k+1))=Ap ((l.drop k).drop 1):=by rw [List.drop_drop]
      iterate 4 go_step
      refine mv hK rfl fun _ h6=>wv h6 rfl rfl rfl rfl (ν ((l.length-k:Nat):Int)) (by rw [Ca rfl (h6.ev 5 rfl) _];rw [hcl]) fun a9 h8=>wv h8 rfl rfl rfl rfl (.bool true) (by unfold execOp;simp only [h8.ev 6 rfl];exact Ad (FL _ _ _ _ _ hpos)) fun a1 h4=>mv h4 rfl fun _ h7=>Ak h7 (by rw [Ac (g:=3) (want:=true) (b:=true) rfl (h7.yields (prev:=8) rfl (by simp))];rfl) rfl (by decide) (fr rfl) (Ap (l.drop k)) (by unfold execOp;simp only [h7.ev 0 rfl];rfl) fun a3 h9=>Ak h9 (by rw [Ac (g:=3) (want:=true) (b:=true) rfl (h9.yields (prev:=8) rfl (by simp))];rfl) rfl (by decide) (fr rfl) (Ag x) (by unfold execOp;simp only [h9.ev 9 rfl];exact Ad (Tb _ _ _ hix _)) fun a5 h10=>Ak h10 (by rw [Ac (g:=3) (want:=true) (b:=true) rfl (h10.yields (prev:=8) rfl (by simp))];rfl) rfl (by decide) (fr rfl) (Ag 0) (by unfold execOp;simp only [h10.ev 1 rfl];rfl) fun a6 h11=>Ak h11 (by rw [Ac (g:=3) (want:=true) (b:=true) rfl (h11.yields (prev:=8) rfl (by simp))];rfl) rfl (by decide) (fr rfl) (.bool true) (by unfold execOp;simp only [h11.ev 10 rfl,h11.ev 11 rfl];exact Ad (Abf _ _ _ _ _ heq)) fun a7 h12=>wv h12 rfl rfl rfl rfl (.bool true) (Bf rfl (h12.ev 8 rfl) (by rw [if_pos rfl];exact h12.ev 12 rfl)) fun a8 h13=>h13.sk [13,0,4,1] rfl fun h14=>?_
      iterate 3 go_step
      refine wp_cond (t:=true) (h14.ev 13 rfl) ?_
      simp only [if_true]
      refine h14.sk [0,4,1] rfl fun h15=>?_
      iterate 5 go_step
      refine mv h15 rfl fun _ h16=>wv h16 rfl rfl rfl rfl (Ap (l.drop (k+1))) (by unfold execOp;simp only [Option.map_some,Option.map_none,h16.ev 14 rfl];exact Ad (by rw [hnx];exact Ahh (l.drop k) 1 (by rw [hcl];omega) _)) fun a10 h17=>h17.sk [15,14,4,1] rfl fun h18=>mv h18 rfl fun _ h19=>h19.sk [0,4,1] rfl fun h20=>?_
      iterate 2 go_step
      refine ⟨⟨k+1,ω,h20.subs rfl,fun i hi h2=>?_,rfl⟩,?_⟩
      · by_cases e:i=k
        · subst e;rw [← hx,hx0]
        · exact hz i hi ω
      · rw [h20.ev 0 rfl,hK.ev 0 rfl];show (bsB _).size<(bsB _).size;rw [Cr,Cr,hcl];rw [List.length_drop];omega
    · have heq:((x.toNat:Int) == ((0:UInt8).toNat:Int))=false:=by simp;intro q;exact hx0 (UInt8.toNat_inj.1 (by simpa using q))
      have hend:k=l.length∨∃ h:k<l.length,l[k]≠0:=.inr ⟨ω,by rw [← hx];exact hx0⟩
      iterate 4 go_step
      refine mv hK rfl fun _ h21=>wv h21 rfl rfl rfl rfl (ν ((l.length-k:Nat):Int)) (by rw [Ca rfl (h21.ev 5 rfl) _];rw [hcl]) fun a11 h22=>wv h22 rfl rfl rfl rfl (.bool true) (by unfold execOp;simp only [h22.ev 6 rfl];exact Ad (FL _ _ _ _ _ hpos)) fun a12 h23=>mv h23 rfl fun _ h24=>Ak h24 (by rw [Ac (g:=3) (want:=true) (b:=true) rfl (h24.yields (prev:=8) rfl (by simp))];rfl) rfl (by decide) (fr rfl) (Ap (l.drop k)) (by unfold execOp;simp only [h24.ev 0 rfl];rfl) fun a13 h25=>Ak h25 (by rw [Ac (g:=3) (want:=true) (b:=true) rfl (h25.yields (prev:=8) rfl (by simp))];rfl) rfl (by decide) (fr rfl) (Ag x) (by unfold execOp;simp only [h25.ev 9 rfl];exact Ad (Tb _ _ _ hix _)) fun a14 h26=>Ak h26 (by rw [Ac (g:=3) (want:=true) (b:=true) rfl (h26.yields (prev:=8) rfl (by simp))];rfl) rfl (by decide) (fr rfl) (Ag 0) (by unfold execOp;simp only [h26.ev 1 rfl];rfl) fun a15 h27=>Ak h27 (by rw [Ac (g:=3) (want:=true) (b:=true) rfl (h27.yields (prev:=8) rfl (by simp))];rfl) rfl (by decide) (fr rfl) (.bool false) (by unfold execOp;simp only [h27.ev 10 rfl,h27.ev 11 rfl];exact Ad (Abf _ _ _ _ _ heq)) fun a16 h28=>wv h28 rfl rfl rfl rfl (.bool false) (Bf rfl (h28.ev 8 rfl) (by rw [if_pos rfl];exact h28.ev 12 rfl)) fun a17 h29=>h29.sk [13,0,4,1] rfl fun h30=>?_
      iterate 3 go_step
      refine wp_cond (t:=false) (h30.ev 13 rfl) ?_
      simp only [Bool.false_eq_true,if_false]
      refine h30.sk [0,4,1] rfl fun h31=>?_
      iterate 7 go_step
      refine mv h31 rfl fun _ h32=>h32.sk [16,0,1] rfl fun h33=>mv h33 rfl fun _ h34=>h34.sk [4,0,1] rfl fun h35=>?_
      iterate 4 go_step
      refine bodyPost_ret (AJ rfl (h35.known (4,Ap (l.drop k)) (by simp))) h35.defs ?_
      exact ⟨_,rfl,k,hk,rfl,hz,hend,rfl⟩
  · have hpos:decide ((0:Int)<((l.length-k:Nat):Int))=false:=decide_eq_false ω
    have hend:k=l.length∨∃ h:k<l.length,l[k]≠0:=.inl ω
    iterate 4 go_step
    refine mv hK rfl fun _ h36=>wv h36 rfl rfl rfl rfl (ν ((l.length-k:Nat):Int)) (by rw [Ca rfl (h36.ev 5 rfl) _];rw [hcl]) fun a18 h37=>wv h37 rfl rfl rfl rfl (.bool false) (by unfold execOp;simp only [h37.ev 6 rfl];exact Ad (FL _ _ _ _ _ hpos)) fun a19 h38=>mv h38 rfl fun _ h39=>AG h39 (by rw [Ac (g:=3) (want:=true) (b:=false) rfl (h39.yields (prev:=8) rfl (by simp))];rfl) rfl (by decide) (fr rfl) fun a20 h40=>AG h40 (by rw [Ac (g:=3) (want:=true) (b:=false) rfl (h40.yields (prev:=8) rfl (by simp))];rfl) rfl (by decide) (fr rfl) fun a21 h41=>AG h41 (by rw [Ac (g:=3) (want:=true) (b:=false) rfl (h41.yields (prev:=8) rfl (by simp))];rfl) rfl (by decide) (fr rfl) fun a22 h42=>AG h42 (by rw [Ac (g:=3) (want:=true) (b:=false) rfl (h42.yields (prev:=8) rfl (by simp))];rfl) rfl (by decide) (fr rfl) fun a23 h43=>wv h43 rfl rfl rfl rfl (.bool false) (Bf rfl (h43.ev 8 rfl) rfl) fun a24 h44=>h44.sk [13,0,4,1] rfl fun h45=>?_
    iterate 3 go_step
    refine wp_cond (t:=false) (h45.ev 13 rfl) ?_
    simp only [Bool.false_eq_true,if_false]
    refine h45.sk [0,4,1] rfl fun h46=>?_
    iterate 7 go_step
    refine mv h46 rfl fun _ h47=>h47.sk [16,0,1] rfl fun h48=>mv h48 rfl fun _ h49=>h49.sk [4,0,1] rfl fun h50=>?_
    iterate 4 go_step
    refine bodyPost_ret (AJ rfl (h50.known (4,Ap (l.drop k)) (by simp))) h50.defs ?_
    exact ⟨_,rfl,k,hk,rfl,hz,hend,rfl⟩
theorem Ad8 (x y:Operand) (s t:Λ) (w:World) {b:Bool} (h:decide (s=t)=b):(do eqGuard .eql 9 x y (Ap s) (Ap t);binOp .eql 9 (Ap s) (Ap t):Sem Value).run prog w=.ok (.bool b) w:=by
  have u3:=υ9
  have a3:=Tryz.isAgg9
  have z3:=Tryz.sizeOf9
  have e:((bsB s).toList == (bsB t).toList)=b:=by
    rw [ByteArray.toList_eq,ByteArray.toList_eq,Gs,Gs,← h]
    by_cases q:s=t<;>simp [q]
  unfold Ap
  go_simp
theorem Abd (x y:Operand) (v u:Int) (w:World) {b:Bool} (h:(v == u)=b):(do eqGuard .eql 3 x y (ν v) (ν u);binOp .eql 3 (ν v) (ν u):Sem Value).run prog w=.ok (.bool b) w:=by
  have u3:=υ3
  have a3:=Tryz.isAgg3
  have z3:=Tryz.sizeOf3
  subst h
  go_simp
theorem Xm {l:Λ} {k j:Nat} (hk:k≤l.length) (hj:j≤(l.take k).length) (hz:∀ i (hi:i<l.length),k≤i→l[i]=0) (hend:k=0∨∃ h:k-1<l.length,l[k-1]≠0)
    (hz2:∀ i (hi:i<(l.take k).length),i<j→(l.take k)[i]=0) (hend2:j=(l.take k).length∨∃ h:j<(l.take k).length,(l.take k)[j]≠0):(l.take k).drop j=[]↔∀ x∈l,x=0:=by
  have hlk:(l.take k).length=k:=by rw [List.length_take];omega
  constructor
  · intro h x hx
    have hjk:j=k:=by
      have:=congrArg List.length h
      rw [List.length_drop,hlk] at this
      simp at this;omega
    obtain ⟨i,hi,rfl⟩:=List.getElem_of_mem hx
    by_cases hik:i<k
    · have:=hz2 i ω ω
      rwa [List.getElem_take] at this
    · exact hz i hi ω
  · intro h
    have hk0:k=0:=by
      rcases hend with h1 | ⟨h1,h2⟩
      · exact h1
      · exact absurd (h _ (List.getElem_mem h1)) h2
    subst hk0
    simp
theorem Kj (l:Λ) (hl:l.length≤1000000) (w:World):Calls prog 126 #[Ap l,Ap [0]] w fun e w'=>∃ v,e=.returned v∧∃ r:Λ,v=Ap r∧(r=[]↔∀ x∈l,x=0)∧Below w.heap.size w w':=by
  go_enter func126,ntmps126
  iterate 3 go_step
  refine AU (N:=43) (l:=[(0,Ap l),(1,Ap [0])]) ⟨rfl,(by intro x hx;simp only [List.mem_cons,List.not_mem_nil,or_false] at hx;rcases hx with rfl | rfl<;>rfl),rfl⟩ fun a2 h1=>wv h1 rfl rfl rfl rfl (Ap []) (by unfold execOp;rfl) fun a4 h3=>?_
  iterate 4 go_step
  by_cases h0:l=[]
  · have he0:decide (l=[])=true:=decide_eq_true h0
    iterate 2 go_step
    refine mv h3 rfl fun _ h5=>wv h5 rfl rfl rfl rfl (.bool true) (by unfold execOp;simp only [h5.ev 7 rfl];exact Ad (Ad8 _ _ _ _ _ he0)) fun a8 h7=>mv h7 rfl fun _ h9=>AG h9 (by rw [Ac (g:=2) (want:=false) (b:=true) rfl (h9.yields (prev:=9) rfl (by simp))];rfl) rfl (by decide) (fr rfl) fun a1 h2=>AG h2 (by rw [Ac (g:=2) (want:=false) (b:=true) rfl (h2.yields (prev:=9) rfl (by simp))];rfl) rfl (by decide) (fr rfl) fun a3 h4=>wv h4 rfl rfl rfl rfl (.bool true) (Bf rfl (h4.ev 9 rfl) rfl) fun a5 h6=>h6.sk [12,4,0,1] rfl fun h8=>?_
    iterate 3 go_step
    refine wp_cond (t:=true) (h8.ev 12 rfl) ?_
    simp only [if_true]
    refine h8.sk [4,0,1] rfl fun h10=>?_
    iterate 2 go_step
    refine mv h10 rfl fun _ h11=>h11.sk [13,0,1] rfl fun h12=>mv h12 rfl fun _ h13=>h13.sk [4,0,1] rfl fun h14=>?_
    iterate 4 go_step
    simp only [Exit.then,Exit.inBlock]
    show bodyPost _ _ _ Exit.ret _ _
    refine bodyPost_ret (AJ rfl (h14.known (4,Ap l) (by simp))) h14.defs ?_
    exact ⟨_,rfl,l,rfl,by rw [h0];simp,Below.refl _ _⟩
  · have he0:decide (l=[])=false:=decide_eq_false h0
    iterate 2 go_step
    refine mv h3 rfl fun _ h15=>wv h15 rfl rfl rfl rfl (.bool false) (by unfold execOp;simp only [h15.ev 7 rfl];exact Ad (Ad8 _ _ _ _ _ he0)) fun a6 h16=>mv h16 rfl fun _ h17=>Ak h17 (by rw [Ac (g:=2) (want:=false) (b:=false) rfl (h17.yields (prev:=9) rfl (by simp))];rfl) rfl (by decide) (fr rfl) (Ap [0]) (by unfold execOp;simp only [h17.ev 1 rfl];rfl) fun a7 h18=>Ak h18 (by rw [Ac (g:=2) (want:=false) (b:=false) rfl (h18.yields (prev:=9) rfl (by simp))];rfl) rfl (by decide) (fr rfl) (.bool false) (by unfold execOp;simp only [h18.ev 10 rfl];exact Ad (Ad8 _ _ _ _ _ (by decide))) fun a9 h19=>wv h19 rfl rfl rfl rfl (.bool false) (Bf rfl (h19.ev 9 rfl) (by rw [if_neg (by simp)];exact h19.ev 11 rfl)) fun a10 h20=>h20.sk [12,4,0,1] rfl fun h21=>?_
    iterate 3 go_step
    refine wp_cond (t:=false) (h21.ev 12 rfl) ?_
    simp only [Bool.false_eq_true,if_false]
    refine h21.sk [4,0,1] rfl fun h22=>?_
    iterate 6 go_step
    refine mv h22 rfl fun _ h23=>wv h23 rfl rfl rfl rfl (ν (([0]:Λ).length:Int)) (Ca rfl (h23.ev 14 rfl) _) fun a11 h24=>wv h24 rfl rfl rfl rfl (.bool true) (by unfold execOp;simp only [h24.ev 15 rfl];exact Ad (Abd _ _ _ _ _ (by rfl))) fun a12 h25=>mv h25 rfl fun _ h26=>Ak h26 (by rw [Ac (g:=3) (want:=true) (b:=true) rfl (h26.yields (prev:=17) rfl (by simp))];rfl) rfl (by decide) (fr rfl) (Ap [0]) (by unfold execOp;simp only [h26.ev 1 rfl];rfl) fun a13 h27=>Ak h27 (by rw [Ac (g:=3) (want:=true) (b:=true) rfl (h27.yields (prev:=17) rfl (by simp))];rfl) rfl (by decide) (fr rfl) (Ag 0) (by unfold execOp;simp only [h27.ev 18 rfl];exact Ad (Tb [0] 0 0 rfl _)) fun a14 h28=>Ak h28 (by rw [Ac (g:=3) (want:=true) (b:=true) rfl (h28.yields (prev:=17) rfl (by simp))];rfl) rfl (by decide) (fr rfl) (.bool true) (by unfold execOp;simp only [h28.ev 19 rfl];exact Ad (Aie _ _ _ _ _ (by decide))) fun a15 h29=>wv h29 rfl rfl rfl rfl (.bool true) (Bf rfl (h29.ev 17 rfl) (by rw [if_pos rfl];exact h29.ev 20 rfl)) fun a16 h30=>h30.sk [21,4,0,1] rfl fun h31=>?_
    iterate 3 go_step
    refine wp_cond (t:=true) (h31.ev 21 rfl) ?_
    simp only [if_true]
    refine h31.sk [4,0,1] rfl fun h32=>?_
    go_step
    refine wp_region_held_drew (S:=fun _=>True) κ trivial (fun hS4=>?_)
    refine Aj hS4 h32 0 rfl rfl (by decide) (fr rfl) κ κ κ (fun _ _ _ _ h=>h) (Ap l) (Or.inl ⟨Eq.refl true,fun w1 _=>(by show (execOp _ (⟨_,.move (.tmp 0),_,_,_,_⟩:Oper)).run _ _=_;exact (by unfold execOp;simp only [h32.ev 0 rfl];exact rfl))⟩) fun a17 h33=>Aj hS4 h33 1 rfl rfl (by decide) (fr rfl) κ κ κ (fun _ _ _ _ h=>h) (Ap [0]) (Or.inl ⟨Eq.refl true,fun w1 _=>(by show (execOp _ (⟨_,.move (.tmp 1),_,_,_,_⟩:Oper)).run _ _=_;exact (by unfold execOp;simp only [h33.ev 1 rfl];exact rfl))⟩) fun a18 h34=>Aj hS4 h34 2 rfl rfl (by decide) (fr rfl) κ κ κ (fun _ _ _ _ h=>h) (Ag 0) (Or.inl ⟨Eq.refl true,fun w1 _=>(by show (execOp _ (⟨_,.index 9 (.tmp 23) (.const (ν 0)),_,_,_,_⟩:Oper)).run _ _=_;exact (by unfold execOp;simp only [h34.ev 23 rfl];exact Ad (Tb [0] 0 0 rfl _)))⟩) fun a19 h35=>Aj hS4 h35 4 rfl rfl (by decide) (fr rfl) κ κ κ (fun _ _ _ _ h=>h) (Ap [0]) (Or.inl ⟨Eq.refl true,fun w1 _=>(by show (execOp _ (⟨_,.move (.tmp 1),_,_,_,_⟩:Oper)).run _ _=_;exact (by unfold execOp;simp only [h35.ev 1 rfl];exact rfl))⟩) fun a20 h36=>Aj hS4 h36 5 rfl rfl (by decide) (fr rfl) κ κ κ (fun _ _ _ _ h=>h) (Ag 0) (Or.inl ⟨Eq.refl true,fun w1 _=>(by show (execOp _ (⟨_,.index 9 (.tmp 26) (.const (ν 0)),_,_,_,_⟩:Oper)).run _ _=_;exact (by unfold execOp;simp only [h36.ev 26 rfl];exact Ad (Tb [0] 0 0 rfl _)))⟩) fun a21 h37=>AD 3 rfl rfl κ fun K hK=>DD h37 rfl (by decide) (fr rfl) (fun args=>cF func152 (args:=args) (w:=_)) rfl #[Ap l,Ag 0] (by simp only [List.map_toArray,List.map_cons,List.map_nil,h37.ev 22 rfl,h37.ev 24 rfl]) (Xl l hl w.drew) fun a22 v1 w1 r1 h38=>hK _ _ trivial fun hS5=>?_
    clear hK K
    obtain ⟨k,hk,rfl,hz,hend,rfl⟩:=r1
    refine AD 6 rfl rfl κ fun K hK=>DD h38 rfl (by decide) (fr rfl) (fun args=>cF func151 (args:=args) (w:=_)) rfl #[Ap (l.take k),Ag 0] (by simp only [List.map_toArray,List.map_cons,List.map_nil,h38.ev 25 rfl,h38.ev 27 rfl]) (Xk (l.take k) (by rw [List.length_take];omega) w.drew) fun a23 v2 w2 r2 h39=>hK _ _ trivial fun hS6=>?_
    clear hK K
    obtain ⟨j,hj,rfl,hz2,hend2,rfl⟩:=r2
    refine h39.sk [28,25,27,26,24,23,22,0,1] rfl fun h40=>Aj hS6 h40 7 rfl rfl (by decide) (fr rfl) κ κ κ (fun _ _ _ _ h=>h) (Ap ((l.take k).drop j)) (Or.inl ⟨Eq.refl true,fun w1 _=>(by show (execOp _ (⟨_,.assign (.tmp 28),_,_,_,_⟩:Oper)).run _ _=_;exact (by unfold execOp;simp only [h40.ev 28 rfl];exact rfl))⟩) fun a24 h41=>?_
    refine wpAnyH_done κ ?_ _
    refine h41.sk [4,0,1] rfl fun h42=>?_
    iterate 3 go_step
    simp only [Exit.then,Exit.inBlock]
    show bodyPost _ _ _ Exit.ret _ _
    refine bodyPost_ret (AJ rfl (h42.known (4,Ap ((l.take k).drop j)) (by simp))) h42.defs ?_
    exact ⟨_,rfl,_,rfl,Xm hk hj hz hend hz2 hend2,(Below.refl _ w).drew⟩
end
section
def zPt:PtM:=⟨0,[]⟩
def DK (xs:Λ):Nat→DS→List PtM→Option (List PtM×DS)
  | 0,s,acc=>some (acc,s)
  | n+1,s,acc=>
    if 256<(Bq xs (Bq xs s 4).2 2).1 then none
    else DK xs n (Br xs (Bq xs (Bq xs s 4).2 2).2 (Bq xs (Bq xs s 4).2 2).1).2 (acc++[⟨((Bq xs s 4).1:Int),(Br xs (Bq xs (Bq xs s 4).2 2).2 (Bq xs (Bq xs s 4).2 2).1).1⟩])
def JC (xs:Λ) (L:List PtM) (s:DS):List PtM×Int×Int:=
  if (Bq xs s 4).2.no=false∧(Bq xs s 4).1≠CN (xs.take s.at_) then ([],0,4)
  else if (Br xs (Bq xs s 4).2 (BD (Bq xs s 4).2.at_)).2.no=true then ([],0,3)
  else if ∀ x∈(Br xs (Bq xs s 4).2 (BD (Bq xs s 4).2.at_)).1,x=0 then (L,((Br xs (Bq xs s 4).2 (BD (Bq xs s 4).2.at_)).2.at_:Int),0) else ([],0,2)
def Yo (xs:Λ):Option (List PtM×DS)→List PtM×Int×Int
  | none=>([],0,2)
  | some r=>JC xs r.1 r.2
def Cj (xs:Λ):List PtM×Int×Int:=
  if 64<(Bq xs ⟨0,false⟩ 2).1 then ([],0,2) else Yo xs (DK xs (Bq xs ⟨0,false⟩ 2).1 (Bq xs ⟨0,false⟩ 2).2 [])
theorem Yx (xs:Λ) (i k:Int):(AW xs i k).getD 0≤9223372036854775807:=by
  unfold AW;split
  · split
    · next h=>exact h
    · exact Nat.zero_le _
  · exact Nat.zero_le _
theorem JU (xs:Λ) (s:DS) (k:Nat):(Bq xs s k).1≤9223372036854775807:=Yx _ _ _
theorem Yt (n:Nat):(List.replicate n zPt).flatMap ptC=(madeCells (Value.agg (ptC zPt).toArray).cells (n*2)).toList:=by
  apply List.ext_getElem?
  intro i
  by_cases hi:i<n*2
  · have h1:=JJ ptC 2 JZ (List.replicate n zPt) (i / 2) (i % 2) (by rw [List.length_replicate];omega) ω
    rw [show i / 2*2+i % 2=i by omega] at h1
    rw [h1,List.getElem_replicate]
    have hr:(madeCells (Value.agg (ptC zPt).toArray).cells (n*2)).toList[i]? = some ((#[Value.int .i64 0,Ap []]:Array Value)[i % 2]!):=by
      rw [Array.getElem?_toList]
      unfold madeCells
      rw [Array.getElem?_map,Array.getElem?_range,if_pos hi]
      rfl
    rw [hr]
    show (ptC zPt)[i % 2]? = _
    rcases (ω:i % 2=0∨i % 2=1) with e | e<;>rw [e]<;>rfl
  · rw [List.getElem?_eq_none (by rw [Acg,List.length_replicate];omega),List.getElem?_eq_none (by rw [Array.length_toList,size_madeCells];omega)]
theorem Ul {w:World} {ops:Array Oper} {rest:List Oper} {o:Oper} {act:Act} {Q:Exit→Act→World→Prop} (hgd:o.guard=none) (l c:Operand)
    (ho:o.op=Op.makeSlice 68 l c) {n:Nat} (hl:act.eval l=ν (n:Int)) (hc:act.eval c=ν (n:Int)) (hn:n≤1000000)
    (h:∀ w',BG w' w.heap.size (some ⟨w.heap.size,0,none⟩) n (List.replicate n zPt)→Below w.heap.size w w'→wpList prog ops Q rest (act.put o.dst (.slice (some ⟨w.heap.size,0,none⟩) n n)) w') :
    wpList prog ops Q (o::rest) act w:=by
  have hinfo:(prog.info? 127).map (fun i=>(i.zero,i.size,i.bytes))=some (some (Value.agg (ptC zPt).toArray),2,24):=κ
  obtain ⟨i,h0,h1,h2,h3⟩:=info_parts hinfo
  refine wpList_make_full w hgd l c _ ho w.heap.size 127 i _ 2 υ68 h0 h1 h2 .i64 .i64 _ _ n hl hc rfl rfl (by rw [h3];omega) (by unfold maxLen;omega) (Nat.le_refl _) ?_
  intro w' hown hgrow
  refine h w' ?_ ((Below.refl _ w).grown hgrow (Nat.le_refl _) (fun k hk=>by cases hk))
  show Own _ _ _ _ _ (List.replicate n zPt).length _ _
  rw [List.length_replicate,Yt]
  exact hown
structure DecS (w W:World) (Bb Ba Bs Bt:Nat) (a:Ω) (c:Nat) (xs:Λ) (s:DS):Prop where
  d:DIn W Bb Ba Bs a c xs s
  t:Blk W Bt 193 [Ny Bs Bb Ba]
  b:Below w.heap.size w W
  ha:w.heap.size≤Ba
  hs:w.heap.size≤Bs
theorem DecS.row {w W:World} {Bb Ba Bs Bt:Nat} {a:Ω} {c:Nat} {xs:Λ} {s:DS} (h:DecS w W Bb Ba Bs Bt a c xs s) (r0:Bo w a c xs):∀ W',Turns (fun k=>k=Ba∨k=Bs) W W'→Bo W' a c xs:=fun W' t=>
  r0.mono (h.b.trans (t.below h.b.size (fun k hk=>hk.elim (fun e=>e ▸ h.ha) (fun e=>e ▸ h.hs))))
theorem DecS.turns {w W W':World} {Bb Ba Bs Bt:Nat} {a:Ω} {c:Nat} {xs:Λ} {s s2:DS} (h:DecS w W Bb Ba Bs Bt a c xs s) (d2:DIn W' Bb Ba Bs a c xs s2) (t:Turns (fun k=>k=Ba∨k=Bs) W W'):DecS w W' Bb Ba Bs Bt a c xs s2:=
  ⟨d2,t.blk h.t (fun q=>q.elim (Ds h.t h.d.p (by decide)) (Ds h.t h.d.f (by decide))),h.b.trans (t.below h.b.size (fun k hk=>hk.elim (fun e=>e ▸ h.ha) (fun e=>e ▸ h.hs))),h.ha,h.hs⟩
theorem DecS.mono {w W W':World} {Bb Ba Bs Bt:Nat} {a:Ω} {c:Nat} {xs:Λ} {s:DS} (h:DecS w W Bb Ba Bs Bt a c xs s) (b:Below W.heap.size W W'):DecS w W' Bb Ba Bs Bt a c xs s:=
  ⟨h.d.mono b,h.t.mono b,Ae h.b b,h.ha,h.hs⟩
theorem DecS.grown {w W W':World} {Bb Ba Bs Bt g:Nat} {a:Ω} {c:Nat} {xs:Λ} {s:DS} (h:DecS w W Bb Ba Bs Bt a c xs s) {L:List Value} (hb:Blk W g 127 L) (G:W.grownBy W' (some g)) (hg:w.heap.size≤g):DecS w W' Bb Ba Bs Bt a c xs s:=
  ⟨⟨h.d.b.grownS G (Ds h.d.b hb (by decide)),h.d.p.grownS G (Ds h.d.p hb (by decide)),h.d.f.grownS G (Ds h.d.f hb (by decide)),h.d.at_⟩,h.t.grownS G (Ds h.t hb (by decide)),AH h.b G hg h.b.size,h.ha,h.hs⟩
theorem DecS.number {w W:World} {Bb Ba Bs Bt:Nat} {a:Ω} {c:Nat} {xs:Λ} {s:DS} (h:DecS w W Bb Ba Bs Bt a c xs s) (r0:Bo w a c xs) (hl:xs.length≤1000000) (n:Nat) (hn:n≤8) :
    Calls prog 125 #[ν (n:Int),π Bt] W fun e w'=>∃ v,e=.returned v∧v=ν ((Bq xs s n).1:Int)∧DecS w w' Bb Ba Bs Bt a c xs (Bq xs s n).2∧Turns (fun k=>k=Ba∨k=Bs) W w':=
  (Ts h.d h.t (h.row r0) hl n hn).mono fun e w' q=>by
    obtain ⟨v,q1,q2,q3,q4⟩:=q
    exact ⟨v,q1,q2,h.turns q3 q4,q4⟩
theorem DecS.take {w W:World} {Bb Ba Bs Bt:Nat} {a:Ω} {c:Nat} {xs:Λ} {s:DS} (h:DecS w W Bb Ba Bs Bt a c xs s) (r0:Bo w a c xs) (hl:xs.length≤1000000) (n:Nat) (hn:n≤1000000) :
    Calls prog 124 #[ν (n:Int),π Bs,π Bb,π Ba] W fun e w'=>∃ v,e=.returned v∧v=Ap (Br xs s n).1∧DecS w w' Bb Ba Bs Bt a c xs (Br xs s n).2∧Turns (fun k=>k=Ba∨k=Bs) W w':=
  (OM h.d (h.row r0) hl n hn).mono fun e w' q=>by
    obtain ⟨v,q1,q2,q3,q4⟩:=q
    exact ⟨v,q1,q2,h.turns q3 q4,q4⟩
theorem Tz {w w':World} {B g1 g2:Nat} {e t1 t2:TypeId} {sz:Nat} {a:Ω} {n c:Nat} {cs L1 L2:List Value} (h:Own w B e sz a n c cs) (hb1:Blk w g1 t1 L1) (hb2:Blk w g2 t2 L2) (n1:e≠t1) (n2:e≠t2) (t:Turns (fun k=>k=g1∨k=g2) w w'):Own w' B e sz a n c cs:=by
  refine ⟨h.1,?_⟩
  rcases h.2 with hn | ⟨b,cap,cur,hv,hB,hh,rest⟩
  · exact .inl hn
  · refine .inr ⟨b,cap,cur,hv,hB,(t.block b (Array.getElem?_eq_some_iff.1 hh).1 (fun q=>?_)).trans hh,rest⟩
    rcases q with q | q
    · subst q
      unfold Blk at hb1
      rw [hb1] at hh
      simp at hh
      exact n1 hh.2.symm
    · subst q
      unfold Blk at hb2
      rw [hb2] at hh
      simp at hh
      exact n2 hh.2.symm
theorem DecS.own {w W W':World} {Bb Ba Bs Bt:Nat} {a:Ω} {c:Nat} {xs:Λ} {s:DS} (h:DecS w W Bb Ba Bs Bt a c xs s) {B:Nat} {la:Ω} {lc:Nat} {L:List PtM} (o:BG W B la lc L) (t:Turns (fun k=>k=Ba∨k=Bs) W W'):BG W' B la lc L:=
  Tz o h.d.p h.d.f (by decide) (by decide) t
theorem QY {w:World} {B g c:Nat} {L:List PtM} {j:Nat} (o:BG w B (some ⟨g,0,none⟩) c L) (hj:j<L.length) (p:PtM) :
    ∃ K,Blk w g 127 K∧j*2+2≤K.length∧B≤g∧∀ w',Blk w' g 127 (splice K (j*2) (ptC p))→BG w' B (some ⟨g,0,none⟩) c (L.set j p):=by
  obtain ⟨K,hb,hK,hB,hs⟩:=MP o
  refine ⟨K,hb,ω,hB,fun w' hb'=>?_⟩
  have:=hs w' (j*2) (ptC p) (by rw [JZ];omega) hb'
  unfold BG
  rw [List.length_set,JK ptC 2 JZ L j p hj]
  exact this
end
section
theorem IJ (xs:Λ) (s:DS) (n:Nat):(Br xs s n).1.length≤n:=by
  unfold Br;split
  · exact Nat.zero_le _
  · show ((xs.drop s.at_).take n).length≤n;rw [List.length_take];omega
theorem Adi (x y:Operand) (v u:Int) (w:World) {b:Bool} (h:(v != u)=b):(do eqGuard .neq 3 x y (ν v) (ν u);binOp .neq 3 (ν v) (ν u):Sem Value).run prog w=.ok (.bool b) w:=by
  have u3:=υ3
  have a3:=Tryz.isAgg3
  have z3:=Tryz.sizeOf3
  subst h
  go_simp
theorem Ab2 (x y:Operand) (s:Λ) (w:World) {b:Bool} (h:(!decide (s=[]))=b):(do eqGuard .neq 9 x y (Ap s) (.string ⟨#[]⟩);binOp .neq 9 (Ap s) (.string ⟨#[]⟩):Sem Value).run prog w=.ok (.bool b) w:=by
  have u3:=υ9
  have a3:=Tryz.isAgg9
  have z3:=Tryz.sizeOf9
  have e:((bsB s).toList == (⟨#[]⟩:ByteArray).toList)=decide (s=[]):=by
    rw [ByteArray.toList_eq,ByteArray.toList_eq,Gs]
    by_cases q:s=[]<;>simp [q]
  subst h
  unfold Ap
  go_simp
  cases hq:decide (s=[])<;>simp_all [bne]
theorem Jy (n:Int) (t:Λ) (w:World):(Instr.build 127 #[(0,ν n),(1,Ap t)]).run prog w=.ok (ptV ⟨n,t⟩) w:=by
  unfold Ap ptV ptC
  go_simp
  rfl
theorem PH {P:Program} {fn:Func} {c d e:Nat} (h:fn.results=#[.tmp c,.tmp d,.tmp e]) {tmps:Array Value} {w:World} {v u x:Value} (hc:tmps[c]? = some v) (hd:tmps[d]? = some u) (he:tmps[e]? = some x):(results fn tmps).run P w=.ok (.tuple #[v,u,x]) w:=by
  simp [results,h,hc,hd,he]
def Up:Value:=.nilFunc
theorem TQ {o:Oper} (ho:o.op=.alloc 193) (ρ:Operand→Value) (w:World):(execOp ρ o).run prog w=.ok (.value (π w.heap.size)) (w.alloc (.cells #[Up] 193)):=by
  unfold execOp;rw [ho];rfl
theorem TR {o:Oper} (ho:o.op=.alloc 3) (ρ:Operand→Value) (w:World):(execOp ρ o).run prog w=.ok (.value (π w.heap.size)) (w.alloc (.cells #[ν 0] 3)):=by
  unfold execOp;rw [ho];rfl
theorem TP {o:Oper} (ho:o.op=.alloc 4) (ρ:Operand→Value) (w:World):(execOp ρ o).run prog w=.ok (.value (π w.heap.size)) (w.alloc (.cells #[.bool false] 4)):=by
  unfold execOp;rw [ho];rfl
theorem Ac1 {w:World} {g off:Nat} {u:Value} (h:w.cell? ⟨g,off,none⟩=some u) (hz:w.frozen? ⟨g,off,none⟩=false) (f:Fn) (x y:Array Value):(Instr.storeAt 193 (.pointer (some ⟨g,off,none⟩)) (.func f x y)).run prog w=.ok () (w.setCell ⟨g,off,none⟩ (.func f x y)):=by
  have u3:=υ193
  have a3:=Tryz.isAgg193
  have z3:=Tryz.sizeOf193
  go_simp
theorem ZK {o:Oper} {x:Operand} (ho:o.op=.box 74 x) {ρ:Operand→Value} {a:Ω} {n c:Nat} (hx:ρ x=.slice a n c) (w:World):(execOp ρ o).run prog w=.ok (.value (π w.heap.size)) (w.alloc (.cells #[.slice a n c] 74)):=by
  unfold execOp;rw [ho];simp only [hx];rfl
theorem Aal {ops:Array Oper} {Q:Exit→Act→World→Prop} {rest:List Oper} {o:Oper} {a:Act} {w:World} {N:Nat} {l:List (Nat×Value)} (h:Kn N l a) (hw:o.guard=none) {d:Nat} (hd:o.dst=some d) (hdN:d<N) (hf:∀ x∈l,x.1≠d) {x:Operand} (ho:o.op=.box 74 x) (ad:Ω) (n c:Nat) (hx:a.eval x=.slice ad n c)
    (k:∀ a' w',Kn N ((d,π w.heap.size)::l) a'→Blk w' w.heap.size 74 [.slice ad n c]→Below w.heap.size w w'→w'.heap.size=w.heap.size+1→wpList prog ops Q rest a' w'):wpList prog ops Q (o::rest) a w:=
  Ak h (Aa hw) hd hdN hf _ (ZK ho hx w) fun a' h'=>k a' _ h' (AK rfl _ _) (Cq _ _) (by simp)
theorem QQ {P:Program} {Q:Exit→Act→World→Prop} {oi:Oper} {a:Act} {w:World} {N:Nat} {l:List (Nat×Value)} {K:Act→World→Prop} (h:Kn N l a) {d:Nat} (hd:oi.dst=some d) (hdN:d<N) (hf:∀ x∈l,x.1≠d)
    {fn:FuncId} (hcf:∀ args,(callFunc fn args).run P w=.ok (.enter fn args) w) {y:Operand} {xs:Array Operand} {ts:Array TypeId} (p:oi.op=.call { callee:=.value y,args:=xs,argTypes:=ts }) (vs caps:Array Value) (hy:a.eval y=.func (.func fn) #[] caps) (hx:xs.map a.eval=vs)
    {R:Value→World→Prop} (HC:Calls P fn (vs++caps) w fun e w'=>∃ v,e=.returned v∧R v w')
    (k:∀ a' v w',R v w'→Kn N ((d,v)::l) a'→K a' w'):Oper.wp P oi a w K Q:=by
  have hrun:(execOp a.eval oi).run P w=.ok (.enter fn (vs++caps)) w:=by
    unfold execOp;rw [p]
    simp [resolve,invoke,Deferred.ofValue,hx,hy,hcf]
  unfold Oper.wp
  rw [hrun,Oper.upon_enter]
  refine HC.mono ?_
  rintro e w' ⟨v,rfl,hv⟩
  simp only
  rw [hd]
  exact k _ v w' hv (h.put hdN hf v)
theorem PI {w W:World} {xs:Λ} {act:Act} {la:Ω} {lc:Nat} {L:List PtM} {n E:Int} (hd:act.defers=[]) (h2:act.tmps[2]? = some (.slice la L.length lc)) (h3:act.tmps[3]? = some (ν n)) (h4:act.tmps[4]? = some (ν E)) (hdec:Cj xs=(L,n,E)) (ho:BG W w.heap.size la lc L) (hb:Below w.heap.size w W) :
    bodyPost prog Tryz.f91 (fun e w'=>∃ v,e=.returned v∧∃ la lc,v=.tuple #[.slice la (Cj xs).1.length lc,ν (Cj xs).2.1,ν (Cj xs).2.2]∧BG w' w.heap.size la lc (Cj xs).1∧Below w.heap.size w w') .ret act W:=by
  refine bodyPost_ret (PH rfl h2 h3 h4) hd ?_
  rw [hdec]
  exact ⟨_,rfl,la,lc,rfl,ho,hb⟩
theorem Sx {w:World} {a:Ω} {c:Nat} {xs:Λ} (r0:Bo w a c xs) (hl:xs.length≤1000000) :
    Calls prog 91 #[.slice a xs.length c] w fun e w'=>∃ v,e=.returned v∧∃ la lc,v=.tuple #[.slice la (Cj xs).1.length lc,ν (Cj xs).2.1,ν (Cj xs).2.2]∧BG w' w.heap.size la lc (Cj xs).1∧Below w.heap.size w w':=by
  have HR0:=hid r0
  clear r0
  obtain ⟨s0,hs0⟩:∃ s,s=(⟨0,false⟩:DS):=⟨_,rfl⟩
  have HS0:=hid hs0
  clear hs0
  go_enter func91,ntmps91
  iterate 3 go_step
  refine AU (N:=69) (l:=[(0,.slice a xs.length c)]) ⟨rfl,(by intro x hx;simp only [List.mem_cons,List.not_mem_nil,or_false] at hx;rcases hx with rfl<;>rfl),rfl⟩ fun a2 h1=>Aal h1 rfl rfl (by decide) (fr rfl) rfl a xs.length c (h1.ev 0 rfl) fun a1b w1 h1b k1 b1 s1=>mv h1b rfl fun _ h3=>mv h3 rfl fun _ h5=>mv h5 rfl fun _ h7=>?_
  iterate 5 go_step
  refine wv h7 rfl rfl rfl rfl (π w1.heap.size) (TR rfl _ _) fun a1 h9=>wv h9 rfl rfl rfl rfl (π ((w1.alloc (.cells #[ν 0] 3)).heap.size)) (TP rfl _ _) fun a3 h2=>?_
  obtain ⟨Bb,hBb⟩:∃ x,x=w.heap.size:=⟨_,rfl⟩
  obtain ⟨Ba,hBa⟩:∃ x,x=w1.heap.size:=⟨_,rfl⟩
  obtain ⟨w2,hw2⟩:∃ x,x=w1.alloc (.cells #[ν 0] 3):=⟨_,rfl⟩
  obtain ⟨Bs,hBs⟩:∃ x,x=w2.heap.size:=⟨_,rfl⟩
  obtain ⟨w3,hw3⟩:∃ x,x=w2.alloc (.cells #[.bool false] 4):=⟨_,rfl⟩
  have k2:Blk w2 Ba 3 [ν 0]:=by rw [hw2,hBa];exact AK rfl _ _
  have b2:Below w1.heap.size w1 w2:=by rw [hw2];exact Cq _ _
  have k3:Blk w3 Bs 4 [.bool false]:=by rw [hw3,hBs];exact AK rfl _ _
  have b3:Below w2.heap.size w2 w3:=by rw [hw3];exact Cq _ _
  have D3:DIn w3 Bb Ba Bs a c xs ⟨0,false⟩:=⟨by rw [hBb];exact (k1.mono b2).mono b3,k2.mono b3,k3,Nat.zero_le _⟩
  have B3:Below w.heap.size w w3:=Ae (Ae b1 b2) b3
  have hA:w.heap.size≤Ba:=by rw [hBa];exact b1.size
  have hS:w.heap.size≤Bs:=by rw [hBs];exact Nat.le_trans b1.size b2.size
  rw [← hBb,← hw2,← hBa,← hBs] at h2;rw [← hw2,← hw3]
  clear hw2 hw3 hBa hBs k1 b1 s1 k2 b2 k3 b3
  obtain ⟨w4,hww4⟩:∃ x,x=w3.setCell ⟨Ba,0,none⟩ (ν 0):=⟨_,rfl⟩
  have D4:DIn w4 Bb Ba Bs a c xs ⟨0,false⟩:=by rw [hww4];exact D3.setA 0 (Nat.zero_le _)
  have B4:Below w.heap.size w w4:=by rw [hww4];exact B3.setCell hA _
  refine DJ h2 (wn rfl) rfl (w':=w4) (by rw [hww4];unfold execOp;simp only [h2.ev 5 rfl];exact Gn (Vk (D3.p.cell (i:=0) (by simp)) (D3.p.frozen 0) _)) fun a4 h4=>?_
  clear hww4 D3 B3
  obtain ⟨w5,hww5⟩:∃ x,x=w4.setCell ⟨Bs,0,none⟩ (.bool false):=⟨_,rfl⟩
  have D5:DIn w5 Bb Ba Bs a c xs ⟨0,false⟩:=by rw [hww5];exact D4.setS false
  have B5:Below w.heap.size w w5:=by rw [hww5];exact B4.setCell hS _
  refine DJ h4 (wn rfl) rfl (w':=w5) (by rw [hww5];unfold execOp;simp only [h4.ev 6 rfl];exact Gn (LQ (D4.f.cell (i:=0) (by simp)) (D4.f.frozen 0) _)) fun a5 h6=>?_
  clear hww5 D4 B4
  iterate 5 go_step
  refine wv h6 rfl rfl rfl rfl (.func (.func 124) #[] #[π Bs,π Bb,π Ba]) (by unfold execOp;simp only [List.map_toArray,List.map_cons,List.map_nil,h6.ev 6 rfl,h6.ev 1 rfl,h6.ev 5 rfl];rfl) fun a6 h8=>wv h8 rfl rfl rfl rfl (π w5.heap.size) (TQ rfl _ _) fun a7 h10=>?_
  obtain ⟨Bt,hBt⟩:∃ x,x=w5.heap.size:=⟨_,rfl⟩
  obtain ⟨w6,hw6⟩:∃ x,x=w5.alloc (.cells #[Up] 193):=⟨_,rfl⟩
  have k6:Blk w6 Bt 193 [Up]:=by rw [hw6,hBt];exact AK rfl _ _
  have b6:Below w5.heap.size w5 w6:=by rw [hw6];exact Cq _ _
  have D6:=D5.mono b6;have B6:=Ae B5 b6
  have hT:w.heap.size≤Bt:=by rw [hBt];exact B5.size
  rw [← hBt] at h10;rw [← hw6]
  clear hw6 hBt D5 B5 b6
  obtain ⟨w7,hw7⟩:∃ x,x=w6.setCell ⟨Bt,0,none⟩ (Ny Bs Bb Ba):=⟨_,rfl⟩
  have HD0:Hid (DecS w w7 Bb Ba Bs Bt a c xs s0):=hid (by rw [hw7,HS0.out];have t:=GZ w6 Bt 0 (Ny Bs Bb Ba);exact ⟨⟨t.blk D6.b (Ds D6.b k6 (by decide)),t.blk D6.p (Ds D6.p k6 (by decide)),t.blk D6.f (Ds D6.f k6 (by decide)),D6.at_⟩,Blk.set k6 0 _,B6.setCell hT _,hA,hS⟩)
  refine DJ h10 (wn rfl) rfl (w':=w7) (by rw [hw7];unfold execOp;simp only [h10.ev 7 rfl,h10.ev 17 rfl];exact Gn (Ac1 (k6.cell (i:=0) (by simp)) (k6.frozen 0) _ _ _)) fun a8 h11=>?_
  clear hw7 k6 D6 B6
  refine h11.sk [7,6,5,4,3,2,1,0] rfl fun h12=>?_
  iterate 5 go_step
  refine wv h12 rfl rfl rfl rfl (.func (.func 125) #[] #[π Bt]) (by unfold execOp;simp only [List.map_toArray,List.map_cons,List.map_nil,h12.ev 7 rfl];rfl) fun a9 h13=>mv h13 rfl fun _ h14=>h14.sk [8,7,6,5,4,3,2,1,0] rfl fun h15=>?_
  iterate 5 go_step
  refine mv h15 rfl fun _ h16=>Fm h16 (wn rfl) rfl (by decide) (fr rfl) (fun args=>cF func125 (args:=args) (w:=_)) rfl #[ν 2] #[π Bt] (h16.ev 19 rfl) (by simp only [List.map_toArray,List.map_cons,List.map_nil];rfl) (R:=fun v w'=>v=ν ((Bq xs s0 2).1:Int)∧DecS w w' Bb Ba Bs Bt a c xs (Bq xs s0 2).2∧Turns (fun k=>k=Ba∨k=Bs) w7 w') (HD0.out.number HR0.out hl 2 (by decide)) fun a10 vx1 wx1 rx1 h17=>?_
  obtain ⟨rfl,q1,q2⟩:=rx1
  obtain ⟨x1,hx1⟩:∃ x,x=(Bq xs s0 2).1:=⟨_,rfl⟩
  obtain ⟨s1,hs1⟩:∃ x,x=(Bq xs s0 2).2:=⟨_,rfl⟩
  have bd1:x1≤9223372036854775807:=by rw [hx1];exact JU _ _ _
  rw [← hx1] at h17;rw [← hs1] at q1
  have HX1:=hid hx1;have HS1:=hid hs1;have HD1:=hid q1;clear q1 q2 hx1 hs1
  refine mv h17 rfl fun _ h18=>h18.sk [9,8,7,6,5,4,3,2,1,0] rfl fun h19=>?_
  iterate 4 go_step
  by_cases hb6:64<x1
  · have hbig:decide ((64:Int)<(x1:Int))=true:=decide_eq_true ω
    iterate 2 go_step
    refine mv h19 rfl fun _ h20=>wv h20 rfl rfl rfl rfl (.bool true) (by unfold execOp;simp only [h20.ev 21 rfl];exact Ad (FL _ _ _ _ _ hbig)) fun a11 h21=>h21.sk [22,9,8,7,6,5,4,3,2,1,0] rfl fun h22=>?_
    iterate 3 go_step
    refine wp_cond (t:=true) (h22.ev 22 rfl) ?_
    simp only [if_true]
    refine h22.sk [9,8,7,6,5,4,3,2,1,0] rfl fun h23=>?_
    iterate 2 go_step
    refine h23.sk [9,8,7,6,5,4,3,1,0] rfl fun h24=>mv h24 rfl fun _ h25=>h25.sk [2,9,8,7,6,5,4,1,0] rfl fun h26=>mv h26 rfl fun _ h27=>h27.sk [3,2,9,8,7,6,5,1,0] rfl fun h28=>mv h28 rfl fun _ h29=>?_
    iterate 4 go_step
    simp only [Exit.then,Exit.inBlock]
    have hde:Cj xs=([],0,2):=by unfold Cj;rw [← HS0.out,← HX1.out,if_pos hb6]
    exact PI (L:=[]) (la:=none) (lc:=0) h29.defs (h29.known (2,.slice none 0 0) (by simp)) (h29.known (3,ν 0) (by simp)) (h29.known (4,ν 2) (by simp)) hde (Own.nil _ _ _ _) HD1.out.b
  · have hbig:decide ((64:Int)<(x1:Int))=false:=decide_eq_false ω
    iterate 2 go_step
    refine mv h19 rfl fun _ h30=>wv h30 rfl rfl rfl rfl (.bool false) (by unfold execOp;simp only [h30.ev 21 rfl];exact Ad (FL _ _ _ _ _ hbig)) fun a12 h31=>h31.sk [22,9,8,7,6,5,4,3,2,1,0] rfl fun h32=>?_
    iterate 3 go_step
    refine wp_cond (t:=false) (h32.ev 22 rfl) ?_
    simp only [Bool.false_eq_true,if_false]
    refine h32.sk [9,8,7,6,5,4,3,2,1,0] rfl fun h33=>?_
    iterate 3 go_step
    have hdec:Cj xs=Yo xs (DK xs x1 s1 []):=by unfold Cj;rw [← HS0.out,← HX1.out,← HS1.out,if_neg hb6]
    have HDEC:=hid hdec;clear hdec
    iterate 2 go_step
    refine mv h33 rfl fun _ h34=>Ul rfl (.tmp 23) (.tmp 23) rfl (n:=x1) (h34.ev 23 rfl) (h34.ev 23 rfl) ω ?_
    intro w8 o8 b8
    obtain ⟨lg,hlg⟩:∃ x,x=wx1.heap.size:=⟨_,rfl⟩
    rw [← hlg] at o8;rw [← hlg]
    refine AU (h34.put (d:=24) (by decide) (fr rfl) (.slice (some ⟨lg,0,none⟩) x1 x1)) fun a13 h35=>?_
    have HD8:=hid (HD1.out.mono b8);have HOW8:Hid (BG w8 w.heap.size (some ⟨lg,0,none⟩) x1 (List.replicate x1 zPt)):=hid (Own.low o8 (by rw [hlg];exact HD1.out.b.size));clear o8 b8
    refine mv h35 rfl fun _ h36=>h36.sk [10,9,8,7,6,5,4,3,2,1,0] rfl fun h37=>?_
    iterate 6 go_step
    refine mv h37 rfl fun _ h38=>wv h38 rfl rfl rfl rfl (ν (x1:Int)) (Dg rfl (h38.ev 25 rfl) _) fun a14 h39=>mv h39 rfl fun _ h40=>h40.sk [27,26,10,9,8,7,6,5,4,3,2,1,0] rfl fun h41=>?_
    iterate 4 go_step
    refine wp_loop (I:=fun a' w'=>∃ (j:Nat) (s:DS) (acc:List PtM),j≤x1∧Kn 69 [(27,ν (j:Int)),(26,ν (x1:Int)),(10,.slice (some ⟨lg,0,none⟩) x1 x1),(9,ν (x1:Int)),(8,.func (.func 125) #[] #[π Bt]),(7,π Bt),(6,π Bs),(5,π Ba),(4,ν 0),(3,ν 0),(2,.slice none 0 0),(1,π Bb),(0,.slice a xs.length c)] a'∧DecS w w' Bb Ba Bs Bt a c xs s∧BG w' w.heap.size (some ⟨lg,0,none⟩) x1 (acc++List.replicate (x1-j) zPt)∧acc.length=j∧DK xs x1 s1 []=DK xs (x1-j) s acc) (μ:=fun a' _=>x1-(intOf (a'.eval (.tmp 27))).toNat) ⟨0,s1,[],Nat.zero_le _,h41,HD8.out,HOW8.out,rfl,rfl⟩ ?_
    clear HD8 HOW8 h41
    rintro aL wL ⟨j,s,acc,hj,hK,hD,hO,hal,hg⟩
    have HD:=hid hD;have HO:=hid hO;have HG:=hid hg;clear hD hO hg
    by_cases hlt:j<x1
    · have hd0:decide ((j:Int)<(x1:Int))=true:=decide_eq_true (by omega)
      have HAL:Hid ((acc++List.replicate (x1-j) zPt).length=x1):=hid (by rw [List.length_append,List.length_replicate];omega)
      have HG1:Hid (DK xs x1 s1 []=(if 256<(Bq xs (Bq xs s 4).2 2).1 then none else DK xs (x1-(j+1)) (Br xs (Bq xs (Bq xs s 4).2 2).2 (Bq xs (Bq xs s 4).2 2).1).2 (acc++[⟨((Bq xs s 4).1:Int),(Br xs (Bq xs (Bq xs s 4).2 2).2 (Bq xs (Bq xs s 4).2 2).1).1⟩]))):=hid (by rw [HG.out,show x1-j=(x1-(j+1))+1 by omega];rfl)
      iterate 3 go_step
      refine wv hK rfl rfl rfl rfl (.bool true) (by unfold execOp;simp only [hK.ev 27 rfl,hK.ev 26 rfl];exact Ad (IN _ _ _ _ _ hd0)) fun a15 h42=>?_
      iterate 4 go_step
      refine wp_cond (t:=true) (h42.ev 28 rfl) ?_
      simp only [if_true]
      refine h42.sk [27,26,10,9,8,7,6,5,4,3,2,1,0] rfl fun h43=>?_
      iterate 7 go_step
      refine mv h43 rfl fun _ h44=>mv h44 rfl fun _ h45=>h45.sk [11,27,26,10,9,8,7,6,5,4,3,2,1,0] rfl fun h46=>?_
      iterate 5 go_step
      refine mv h46 rfl fun _ h47=>Fm h47 (wn rfl) rfl (by decide) (fr rfl) (fun args=>cF func125 (args:=args) (w:=_)) rfl #[ν 4] #[π Bt] (h47.ev 30 rfl) (by simp only [List.map_toArray,List.map_cons,List.map_nil];rfl) (R:=fun v w'=>v=ν ((Bq xs s 4).1:Int)∧DecS w w' Bb Ba Bs Bt a c xs (Bq xs s 4).2∧Turns (fun k=>k=Ba∨k=Bs) wL w') (HD.out.number HR0.out hl 4 (by decide)) fun a16 vx2 wx2 rx2 h48=>?_
      obtain ⟨rfl,q1,q2⟩:=rx2
      obtain ⟨x2,hx2⟩:∃ x,x=(Bq xs s 4).1:=⟨_,rfl⟩
      obtain ⟨s2,hs2⟩:∃ x,x=(Bq xs s 4).2:=⟨_,rfl⟩
      have bd2:x2≤9223372036854775807:=by rw [hx2];exact JU _ _ _
      rw [← hx2] at h48;rw [← hs2] at q1
      have HOW2:=hid (HD.out.own HO.out q2)
      have HX2:=hid hx2;have HS2:=hid hs2;have HD2:=hid q1;clear q1 q2 hx2 hs2
      refine mv h48 rfl fun _ h49=>Fm h49 (wn rfl) rfl (by decide) (fr rfl) (fun args=>cF func125 (args:=args) (w:=_)) rfl #[ν 2] #[π Bt] (h49.ev 32 rfl) (by simp only [List.map_toArray,List.map_cons,List.map_nil];rfl) (R:=fun v w'=>v=ν ((Bq xs s2 2).1:Int)∧DecS w w' Bb Ba Bs Bt a c xs (Bq xs s2 2).2∧Turns (fun k=>k=Ba∨k=Bs) wx2 w') (HD2.out.number HR0.out hl 2 (by decide)) fun a17 vx3 wx3 rx3 h50=>?_
      obtain ⟨rfl,q1,q2⟩:=rx3
      obtain ⟨x3,hx3⟩:∃ x,x=(Bq xs s2 2).1:=⟨_,rfl⟩
      obtain ⟨s3,hs3⟩:∃ x,x=(Bq xs s2 2).2:=⟨_,rfl⟩
      have bd3:x3≤9223372036854775807:=by rw [hx3];exact JU _ _ _
      rw [← hx3] at h50;rw [← hs3] at q1
      have HOW3:=hid (HD2.out.own HOW2.out q2)
      have HX3:=hid hx3;have HS3:=hid hs3;have HD3:=hid q1;clear q1 q2 hx3 hs3
      refine mv h50 rfl fun _ h51=>mv h51 rfl fun _ h52=>h52.sk [13,12,11,27,26,10,9,8,7,6,5,4,3,2,1,0] rfl fun h53=>?_
      iterate 4 go_step
      by_cases hl2:256<x3
      · have hlong:decide ((256:Int)<(x3:Int))=true:=decide_eq_true (by omega)
        iterate 2 go_step
        refine mv h53 rfl fun _ h54=>wv h54 rfl rfl rfl rfl (.bool true) (by unfold execOp;simp only [h54.ev 34 rfl];exact Ad (FL _ _ _ _ _ hlong)) fun a18 h55=>h55.sk [35,13,12,11,27,26,10,9,8,7,6,5,4,3,2,1,0] rfl fun h56=>?_
        iterate 3 go_step
        refine wp_cond (t:=true) (h56.ev 35 rfl) ?_
        simp only [if_true]
        refine h56.sk [13,12,11,27,26,10,9,8,7,6,5,4,3,2,1,0] rfl fun h57=>?_
        iterate 2 go_step
        refine h57.sk [13,12,11,27,26,10,9,8,7,6,5,4,3,1,0] rfl fun h58=>mv h58 rfl fun _ h59=>h59.sk [2,13,12,11,27,26,10,9,8,7,6,5,4,1,0] rfl fun h60=>mv h60 rfl fun _ h61=>h61.sk [3,2,13,12,11,27,26,10,9,8,7,6,5,1,0] rfl fun h62=>mv h62 rfl fun _ h63=>?_
        iterate 4 go_step
        simp only [Exit.then,Exit.inBlock]
        have hde:Cj xs=([],0,2):=by rw [HDEC.out,HG1.out,← HS2.out,← HX3.out,if_pos hl2];rfl
        exact PI (L:=[]) (la:=none) (lc:=0) h63.defs (h63.known (2,.slice none 0 0) (by simp)) (h63.known (3,ν 0) (by simp)) (h63.known (4,ν 2) (by simp)) hde (Own.nil _ _ _ _) HD3.out.b
      · have hlong:decide ((256:Int)<(x3:Int))=false:=decide_eq_false (by omega)
        iterate 2 go_step
        refine mv h53 rfl fun _ h64=>wv h64 rfl rfl rfl rfl (.bool false) (by unfold execOp;simp only [h64.ev 34 rfl];exact Ad (FL _ _ _ _ _ hlong)) fun a19 h65=>h65.sk [35,13,12,11,27,26,10,9,8,7,6,5,4,3,2,1,0] rfl fun h66=>?_
        iterate 3 go_step
        refine wp_cond (t:=false) (h66.ev 35 rfl) ?_
        simp only [Bool.false_eq_true,if_false]
        refine h66.sk [13,12,11,27,26,10,9,8,7,6,5,4,3,2,1,0] rfl fun h67=>?_
        iterate 4 go_step
        refine mv h67 rfl fun _ h68=>mv h68 rfl fun _ h69=>mv h69 rfl fun _ h70=>wv h70 rfl rfl rfl rfl (.func (.func 124) #[] #[π Bs,π Bb,π Ba]) (by unfold execOp;simp only [h70.ev 7 rfl];exact Ad (Ps (by have z:=HD3.out.t.cell (i:=0) (by simp);exact z))) fun a20 h71=>mv h71 rfl fun _ h72=>Fm h72 (wn rfl) rfl (by decide) (fr rfl) (fun args=>cF func124 (args:=args) (w:=_)) rfl #[ν (x3:Int)] #[π Bs,π Bb,π Ba] (h72.ev 39 rfl) (by simp only [List.map_toArray,List.map_cons,List.map_nil,h72.ev 40 rfl]) (R:=fun v w'=>v=Ap (Br xs s3 x3).1∧DecS w w' Bb Ba Bs Bt a c xs (Br xs s3 x3).2∧Turns (fun k=>k=Ba∨k=Bs) wx3 w') (HD3.out.take HR0.out hl x3 ω) fun a21 vx4 wx4 rx4 h73=>?_
        obtain ⟨rfl,q1,q2⟩:=rx4
        obtain ⟨x4,hx4⟩:∃ x,x=(Br xs s3 x3).1:=⟨_,rfl⟩
        obtain ⟨s4,hs4⟩:∃ x,x=(Br xs s3 x3).2:=⟨_,rfl⟩
        have bd4:x4.length≤x3:=by rw [hx4];exact IJ _ _ _
        rw [← hx4] at h73;rw [← hs4] at q1
        have HOW4:=hid (HD3.out.own HOW3.out q2)
        have HX4:=hid hx4;have HS4:=hid hs4;have HD4:=hid q1;clear q1 q2 hx4 hs4
        refine wv h73 rfl rfl rfl rfl (ptV ⟨(x2:Int),x4⟩) (by unfold execOp;simp only [List.map_toArray,List.map_cons,List.map_nil,h73.ev 38 rfl,h73.ev 41 rfl];exact Ad (Jy _ _ _)) fun a22 h74=>wv h74 rfl rfl rfl rfl (.pointer (some ⟨lg,0+j*2,none⟩)) (by unfold execOp;simp only [h74.ev 36 rfl,h74.ev 37 rfl];exact Ad (ixP lg 0 x1 x1 j hlt _)) fun a23 h75=>?_
        obtain ⟨K,hk0,hKl,hlB,hset⟩:=QY (j:=j) HOW4.out (by rw [HAL.out];exact hlt) (⟨(x2:Int),x4⟩:PtM)
        refine FF h75 rfl rfl rfl lg (0+j*2) (h75.ev 43 rfl) (ptC (⟨(x2:Int),x4⟩:PtM)) (h75.ev 42 rfl) (by rw [Ev];rfl) (FW _) hk0 (by show 0+j*2+2≤_;omega) fun a24 wq h76 kq gq=>?_
        rw [Nat.zero_add] at kq
        have HQ:=hid (hset wq kq);have HDQ:=hid (HD4.out.grown hk0 gq hlB);clear hset kq gq hk0
        refine h76.sk [13,12,11,27,26,10,9,8,7,6,5,4,3,2,1,0] rfl fun h77=>?_
        iterate 4 go_step
        refine wv h77 rfl rfl rfl rfl (ν ((j+1:Nat):Int)) (by unfold execOp;simp only [h77.ev 27 rfl];exact Ad (LU _ _ j ω _)) fun a25 h78=>h78.sk [44,13,12,11,26,10,9,8,7,6,5,4,3,2,1,0] rfl fun h79=>mv h79 rfl fun _ h80=>h80.sk [27,13,12,11,26,10,9,8,7,6,5,4,3,2,1,0] rfl fun h81=>?_
        iterate 2 go_step
        refine ⟨⟨j+1,s4,acc++[⟨(x2:Int),x4⟩],ω,h81.subs rfl,HDQ.out,?_,by rw [List.length_append,hal];rfl,?_⟩,?_⟩
        · have z:=HQ.out;have e:(acc++List.replicate (x1-j) zPt).set j ⟨(x2:Int),x4⟩=acc++[⟨(x2:Int),x4⟩]++List.replicate (x1-(j+1)) zPt:=by rw [show x1-j=(x1-(j+1))+1 by omega,List.replicate_succ,List.set_append_right _ _ (by omega),hal,Nat.sub_self,List.set_cons_zero,List.append_assoc];rfl
          rw [e] at z;exact z
        · rw [HG1.out,← HS2.out,← HX3.out,if_neg hl2,← HX2.out,← HS3.out,← HX4.out,← HS4.out]
        · rw [h81.ev 27 rfl,hK.ev 27 rfl];simp [intOf];omega
    · have hd0:decide ((j:Int)<(x1:Int))=false:=decide_eq_false (by omega)
      obtain rfl:j=x1:=by omega
      have hdec2:Cj xs=JC xs acc s:=by rw [HDEC.out,HG.out,Nat.sub_self];rfl
      have HOA:Hid (BG wL w.heap.size (some ⟨lg,0,none⟩) j acc):=hid (by have z:=HO.out;rw [Nat.sub_self,List.replicate_zero,List.append_nil] at z;exact z)
      have HDE:=hid hdec2;clear hdec2
      iterate 3 go_step
      refine wv hK rfl rfl rfl rfl (.bool false) (by unfold execOp;simp only [hK.ev 27 rfl,hK.ev 26 rfl];exact Ad (IN _ _ _ _ _ hd0)) fun a26 h82=>?_
      iterate 4 go_step
      refine wp_cond (t:=false) (h82.ev 28 rfl) ?_
      simp only [Bool.false_eq_true,if_false]
      refine h82.sk [27,26,10,9,8,7,6,5,4,3,2,1,0] rfl fun h83=>?_
      iterate 7 go_step
      refine wv h83 rfl rfl rfl rfl (.slice a xs.length c) (by unfold execOp;simp only [h83.ev 1 rfl];exact Ad (Pu (HD.out.d.b.cell (i:=0) (by simp)))) fun a27 h84=>wv h84 rfl rfl rfl rfl (ν (s.at_:Int)) (by unfold execOp;simp only [h84.ev 5 rfl];exact Ad (BP (HD.out.d.p.cell (i:=0) (by simp)))) fun a28 h85=>?_
      obtain ⟨hsl,hrow⟩:=Afq (HD.out.row HR0.out _ (Turns.refl _ _)) s.at_ HD.out.d.at_
      have htl:(xs.take s.at_).length=s.at_:=by rw [List.length_take];exact Nat.min_eq_left HD.out.d.at_
      refine wv h85 rfl rfl rfl rfl (.slice a s.at_ c) (by unfold execOp;simp only [Option.map_some,Option.map_none,h85.ev 45 rfl,h85.ev 46 rfl];exact Ad (hsl _)) fun a29 h86=>AO h86 (wn rfl) rfl (by decide) (fr rfl) (fun args=>cF func70 (args:=args) (w:=_)) rfl #[.slice a s.at_ c] (by simp only [List.map_toArray,List.map_cons,List.map_nil,h86.ev 47 rfl]) (R:=fun v w'=>v=.int .u32 (CN (xs.take s.at_):Int)∧Below wL.heap.size wL w') ((by have z:=Kh a c (xs.take s.at_) wL hrow;rw [htl] at z;exact z.mono fun e w' q=>⟨_,q.1,rfl,q.2⟩)) fun a30 vc wc rc h87=>?_
      obtain ⟨rfl,bc⟩:=rc
      obtain ⟨cr,hcr⟩:∃ x,x=CN (xs.take s.at_):=⟨_,rfl⟩
      have hcl:cr<4294967296:=by rw [hcr];exact EE _
      rw [← hcr] at h87
      have HCR:=hid hcr;have HDC:=hid (HD.out.mono bc);have HOC:=hid (Own.mono HOA.out bc);clear hcr bc
      refine wv h87 rfl rfl rfl rfl (ν (cr:Int)) (by unfold execOp;simp only [h87.ev 48 rfl];exact Ad (UB cr hcl _)) fun a31 h88=>mv h88 rfl fun _ h89=>h89.sk [14,27,26,10,9,8,7,6,5,4,3,2,1,0] rfl fun h90=>?_
      iterate 5 go_step
      refine mv h90 rfl fun _ h91=>Fm h91 (wn rfl) rfl (by decide) (fr rfl) (fun args=>cF func125 (args:=args) (w:=_)) rfl #[ν 4] #[π Bt] (h91.ev 50 rfl) (by simp only [List.map_toArray,List.map_cons,List.map_nil];rfl) (R:=fun v w'=>v=ν ((Bq xs s 4).1:Int)∧DecS w w' Bb Ba Bs Bt a c xs (Bq xs s 4).2∧Turns (fun k=>k=Ba∨k=Bs) wc w') (HDC.out.number HR0.out hl 4 (by decide)) fun a32 vx5 wx5 rx5 h92=>?_
      obtain ⟨rfl,q1,q2⟩:=rx5
      obtain ⟨x5,hx5⟩:∃ x,x=(Bq xs s 4).1:=⟨_,rfl⟩
      obtain ⟨s5,hs5⟩:∃ x,x=(Bq xs s 4).2:=⟨_,rfl⟩
      have bd5:x5≤9223372036854775807:=by rw [hx5];exact JU _ _ _
      rw [← hx5] at h92;rw [← hs5] at q1
      have HOW5:=hid (HDC.out.own HOC.out q2)
      have HX5:=hid hx5;have HS5:=hid hs5;have HD5:=hid q1;clear q1 q2 hx5 hs5
      refine mv h92 rfl fun _ h93=>h93.sk [15,14,27,26,10,9,8,7,6,5,4,3,2,1,0] rfl fun h94=>?_
      iterate 3 go_step
      have hend:Cj xs=JC xs acc s:=HDE.out
      unfold JC at hend
      rw [← HS5.out,← HX5.out,← HCR.out] at hend
      have HE:=hid hend;clear hend
      go_step
      by_cases hsum:s5.no=false∧x5≠cr
      · have hno:=hsum.1
        have hne:((x5:Int) != (cr:Int))=true:=by have:=hsum.2;simp;omega
        iterate 2 go_step
        refine wv h94 rfl rfl rfl rfl (.bool false) (by unfold execOp;simp only [h94.ev 6 rfl];exact Ad (Ew (by have z:=HD5.out.d.f.cell (i:=0) (by simp);rw [hno] at z;exact z))) fun a33 h95=>wv h95 rfl rfl rfl rfl (.bool true) (Ff rfl (h95.ev 52 rfl)) fun a34 h96=>mv h96 rfl fun _ h97=>Ak h97 (by rw [Ac (g:=2) (want:=true) (b:=true) rfl (h97.yields (prev:=54) rfl (by simp))];rfl) rfl (by decide) (fr rfl) (ν (x5:Int)) (by unfold execOp;simp only [h97.ev 15 rfl];rfl) fun a35 h98=>Ak h98 (by rw [Ac (g:=2) (want:=true) (b:=true) rfl (h98.yields (prev:=54) rfl (by simp))];rfl) rfl (by decide) (fr rfl) (ν (cr:Int)) (by unfold execOp;simp only [h98.ev 14 rfl];rfl) fun a36 h99=>Ak h99 (by rw [Ac (g:=2) (want:=true) (b:=true) rfl (h99.yields (prev:=54) rfl (by simp))];rfl) rfl (by decide) (fr rfl) (.bool true) (by unfold execOp;simp only [h99.ev 55 rfl,h99.ev 56 rfl];exact Ad (Adi _ _ _ _ _ hne)) fun a37 h100=>wv h100 rfl rfl rfl rfl (.bool true) (Bf rfl (h100.ev 54 rfl) (by rw [if_pos rfl];exact h100.ev 57 rfl)) fun a38 h101=>h101.sk [58,15,14,27,26,10,9,8,7,6,5,4,3,2,1,0] rfl fun h102=>?_
        iterate 3 go_step
        refine wp_cond (t:=true) (h102.ev 58 rfl) ?_
        simp only [if_true]
        refine h102.sk [15,14,27,26,10,9,8,7,6,5,4,3,2,1,0] rfl fun h103=>?_
        iterate 2 go_step
        refine h103.sk [15,14,27,26,10,9,8,7,6,5,4,3,1,0] rfl fun h104=>mv h104 rfl fun _ h105=>h105.sk [2,15,14,27,26,10,9,8,7,6,5,4,1,0] rfl fun h106=>mv h106 rfl fun _ h107=>h107.sk [3,2,15,14,27,26,10,9,8,7,6,5,1,0] rfl fun h108=>mv h108 rfl fun _ h109=>?_
        iterate 4 go_step
        simp only [Exit.then,Exit.inBlock]
        have hde:Cj xs=([],0,4):=by rw [HE.out,if_pos hsum]
        exact PI (L:=[]) (la:=none) (lc:=0) h109.defs (h109.known (2,.slice none 0 0) (by simp)) (h109.known (3,ν 0) (by simp)) (h109.known (4,ν 4) (by simp)) hde (Own.nil _ _ _ _) HD5.out.b
      · skip
        have HE1:=hid (HE.out.trans (if_neg hsum))
        cases hno:s5.no with
        | true=>
          iterate 2 go_step
          refine wv h94 rfl rfl rfl rfl (.bool true) (by unfold execOp;simp only [h94.ev 6 rfl];exact Ad (Ew (by have z:=HD5.out.d.f.cell (i:=0) (by simp);rw [hno] at z;exact z))) fun a39 h110=>wv h110 rfl rfl rfl rfl (.bool false) (Ff rfl (h110.ev 52 rfl)) fun a40 h111=>mv h111 rfl fun _ h112=>AG h112 (by rw [Ac (g:=2) (want:=true) (b:=false) rfl (h112.yields (prev:=54) rfl (by simp))];rfl) rfl (by decide) (fr rfl) fun a41 h113=>AG h113 (by rw [Ac (g:=2) (want:=true) (b:=false) rfl (h113.yields (prev:=54) rfl (by simp))];rfl) rfl (by decide) (fr rfl) fun a42 h114=>AG h114 (by rw [Ac (g:=2) (want:=true) (b:=false) rfl (h114.yields (prev:=54) rfl (by simp))];rfl) rfl (by decide) (fr rfl) fun a43 h115=>wv h115 rfl rfl rfl rfl (.bool false) (Bf rfl (h115.ev 54 rfl) rfl) fun a44 h116=>h116.sk [58,15,14,27,26,10,9,8,7,6,5,4,3,2,1,0] rfl fun h117=>?_
          iterate 3 go_step
          refine wp_cond (t:=false) (h117.ev 58 rfl) ?_
          simp only [Bool.false_eq_true,if_false]
          refine h117.sk [15,14,27,26,10,9,8,7,6,5,4,3,2,1,0] rfl fun h118=>?_
          iterate 4 go_step
          have HDd:=hid (HD5.out.mono (Below.refl _ _).drew);have HOd:=hid (Own.mono HOW5.out (Below.refl _ _).drew)
          refine wp_region_held_drew (S:=fun w'=>Blk w' Bt 193 [Ny Bs Bb Ba]) (by kernel_rfl) HDd.out.t (fun hS20=>?_)
          refine Aj hS20 h118 0 rfl rfl (by decide) (fr rfl) κ κ κ (fun _ _ _ _ h=>h) (.func (.func 124) #[] #[π Bs,π Bb,π Ba]) (Or.inl ⟨Eq.refl true,fun w1 hSw=>(by show (execOp _ (⟨_,.load 193 (.tmp 7),_,_,_,_⟩:Oper)).run _ _=_;exact (by unfold execOp;simp only [h118.ev 7 rfl];exact Ad (Ps (by have z:=hSw.cell (i:=0) (by simp);exact z))))⟩) fun a45 h119=>AD 1 rfl rfl κ fun K hK=>Dt (w':=wx5.drew) h119 rfl (by decide) (fr rfl) (ν (s5.at_:Int)) (by show (execOp _ (⟨_,.load 3 (.tmp 5),_,_,_,_⟩:Oper)).run _ _=_;exact (by unfold execOp;simp only [h119.ev 5 rfl];exact Ad (BP (HDd.out.d.p.cell (i:=0) (by simp))))) fun a46 h120=>hK _ _ hS20 fun hS21=>?_
          clear hK K
          refine AD 2 rfl rfl κ fun K hK=>DD h120 rfl (by decide) (fr rfl) (fun args=>cF func89 (args:=args) (w:=_)) rfl #[ν (s5.at_:Int)] (by simp only [List.map_toArray,List.map_cons,List.map_nil,h120.ev 60 rfl]) (R:=fun v w'=>v=ν (BD s5.at_:Int)∧wx5.drew=w') ((If s5.at_ (by have:=HDd.out.d.at_;omega) wx5.drew).mono fun e w' q=>⟨_,q.1,rfl,q.2⟩) fun a47 vp wp rp h121=>hK _ _ (by rw [← rp.2];exact hS21) fun hS22=>?_
          clear hK K
          obtain ⟨rfl,rfl⟩:=rp
          refine AD 3 rfl rfl κ fun K hK=>QQ h121 rfl (by decide) (fr rfl) (fun args=>cF func124 (args:=args) (w:=_)) rfl #[ν (BD s5.at_:Int)] #[π Bs,π Bb,π Ba] (h121.ev 59 rfl) (by simp only [List.map_toArray,List.map_cons,List.map_nil,h121.ev 61 rfl]) (R:=fun v w'=>v=Ap (Br xs s5 (BD s5.at_)).1∧DecS w w' Bb Ba Bs Bt a c xs (Br xs s5 (BD s5.at_)).2∧Turns (fun k=>k=Ba∨k=Bs) wx5.drew w') (HDd.out.take HR0.out hl (BD s5.at_) (by unfold BD;omega)) fun a48 vx6 wx6 rx6 h122=>hK _ _ rx6.2.1.t fun hS23=>?_
          clear hK K
          obtain ⟨rfl,q1,q2⟩:=rx6
          obtain ⟨x6,hx6⟩:∃ x,x=(Br xs s5 (BD s5.at_)).1:=⟨_,rfl⟩
          obtain ⟨s6,hs6⟩:∃ x,x=(Br xs s5 (BD s5.at_)).2:=⟨_,rfl⟩
          have bd6:x6.length≤(BD s5.at_):=by rw [hx6];exact IJ _ _ _
          rw [← hx6] at h122;rw [← hs6] at q1
          have HOW6:=hid (HDd.out.own HOd.out q2)
          have HX6:=hid hx6;have HS6:=hid hs6;have HD6:=hid q1;clear q1 q2 hx6 hs6
          refine Aj hS23 h122 4 rfl rfl (by decide) (fr rfl) κ κ κ (fun _ _ _ _ h=>h) (Ap x6) (Or.inl ⟨Eq.refl true,fun w1 _=>(by show (execOp _ (⟨_,.assign (.tmp 62),_,_,_,_⟩:Oper)).run _ _=_;exact (by unfold execOp;simp only [h122.ev 62 rfl];exact rfl))⟩) fun a49 h123=>?_
          refine wpAnyH_done κ ?_ _
          refine h123.sk [16,15,14,27,26,10,9,8,7,6,5,4,3,2,1,0] rfl fun h124=>?_
          iterate 2 go_step
          rw [← HS6.out,← HX6.out] at HE1
          go_step
          cases hno:s6.no with
          | true=>
            iterate 2 go_step
            refine wv h124 rfl rfl rfl rfl (.bool true) (by unfold execOp;simp only [h124.ev 6 rfl];exact Ad (Ew (by have z:=HD6.out.d.f.cell (i:=0) (by simp);rw [hno] at z;exact z))) fun a50 h125=>?_
            iterate 3 go_step
            refine wp_cond (t:=true) (h125.ev 63 rfl) ?_
            simp only [if_true]
            refine h125.sk [16,15,14,27,26,10,9,8,7,6,5,4,3,2,1,0] rfl fun h126=>?_
            iterate 2 go_step
            refine h126.sk [16,15,14,27,26,10,9,8,7,6,5,4,3,1,0] rfl fun h127=>mv h127 rfl fun _ h128=>h128.sk [2,16,15,14,27,26,10,9,8,7,6,5,4,1,0] rfl fun h129=>mv h129 rfl fun _ h130=>h130.sk [3,2,16,15,14,27,26,10,9,8,7,6,5,1,0] rfl fun h131=>mv h131 rfl fun _ h132=>?_
            iterate 4 go_step
            simp only [Exit.then,Exit.inBlock]
            have hde:Cj xs=([],0,3):=by rw [HE1.out,if_pos hno]
            exact PI (L:=[]) (la:=none) (lc:=0) h132.defs (h132.known (2,.slice none 0 0) (by simp)) (h132.known (3,ν 0) (by simp)) (h132.known (4,ν 3) (by simp)) hde (Own.nil _ _ _ _) HD6.out.b
          | false=>
            iterate 2 go_step
            refine wv h124 rfl rfl rfl rfl (.bool false) (by unfold execOp;simp only [h124.ev 6 rfl];exact Ad (Ew (by have z:=HD6.out.d.f.cell (i:=0) (by simp);rw [hno] at z;exact z))) fun a51 h133=>?_
            iterate 3 go_step
            refine wp_cond (t:=false) (h133.ev 63 rfl) ?_
            simp only [Bool.false_eq_true,if_false]
            refine h133.sk [16,15,14,27,26,10,9,8,7,6,5,4,3,2,1,0] rfl fun h134=>?_
            iterate 3 go_step
            have HE2:=hid (HE1.out.trans (if_neg (by rw [hno];decide)))
            go_step
            by_cases hz:∀ x∈x6,x=0
            · skip
              iterate 2 go_step
              refine mv h134 rfl fun _ h135=>AO h135 (wn rfl) rfl (by decide) (fr rfl) (fun args=>cF func126 (args:=args) (w:=_)) rfl #[Ap x6,Ap [0]] (by simp only [List.map_toArray,List.map_cons,List.map_nil,h135.ev 64 rfl];rfl) (R:=fun v w'=>∃ r:Λ,v=Ap r∧(r=[]↔∀ x∈x6,x=0)∧Below wx6.heap.size wx6 w') (Kj x6 (by have:=bd6;unfold BD at this;omega) wx6) fun a52 vt wt rt h136=>?_
              obtain ⟨tr,rfl,htr,bt⟩:=rt
              have HDT:=hid (HD6.out.mono bt);have HOT:=hid (Own.mono HOW6.out bt);clear bt
              have hrne:(!decide (tr=[]))=false:=by rw [decide_eq_true (htr.2 hz)];rfl
              refine wv h136 rfl rfl rfl rfl (.bool false) (by unfold execOp;simp only [h136.ev 65 rfl];exact Ad (Ab2 _ _ _ _ hrne)) fun a53 h137=>h137.sk [66,16,15,14,27,26,10,9,8,7,6,5,4,3,2,1,0] rfl fun h138=>?_
              iterate 3 go_step
              refine wp_cond (t:=false) (h138.ev 66 rfl) ?_
              simp only [Bool.false_eq_true,if_false]
              refine h138.sk [16,15,14,27,26,10,9,8,7,6,5,4,3,2,1,0] rfl fun h139=>?_
              iterate 4 go_step
              refine wp_region_held_drew (S:=fun w'=>w'=wt.drew) κ rfl (fun hS236=>?_)
              have HDe:=hid (HDT.out.mono (Below.refl _ _).drew);have HOe:=hid (Own.mono HOT.out (Below.refl _ _).drew)
              refine Aj hS236 h139 0 rfl rfl (by decide) (fr rfl) κ κ κ (fun _ _ _ _ h=>h) (.slice (some ⟨lg,0,none⟩) j j) (Or.inl ⟨Eq.refl true,fun w1 hSw=>(by cases hSw;exact (by show (execOp _ (⟨_,.move (.tmp 10),_,_,_,_⟩:Oper)).run _ _=_;exact (by unfold execOp;simp only [h139.ev 10 rfl];rfl)))⟩) fun a54 h140=>Aj hS236 h140 1 rfl rfl (by decide) (fr rfl) κ κ κ (fun _ _ _ _ h=>h) (ν (s6.at_:Int)) (Or.inl ⟨Eq.refl true,fun w1 hSw=>(by cases hSw;exact (by show (execOp _ (⟨_,.load 3 (.tmp 5),_,_,_,_⟩:Oper)).run _ _=_;exact (by unfold execOp;simp only [h140.ev 5 rfl];exact Ad (BP (HDe.out.d.p.cell (i:=0) (by simp))))))⟩) fun a55 h141=>h141.sk [68,67,16,15,14,27,26,10,9,8,7,6,5,4,3,1,0] rfl fun h142=>Aj hS236 h142 2 rfl rfl (by decide) (fr rfl) κ κ κ (fun _ _ _ _ h=>h) (.slice (some ⟨lg,0,none⟩) j j) (Or.inl ⟨Eq.refl true,fun w1 hSw=>(by cases hSw;exact (by show (execOp _ (⟨_,.assign (.tmp 67),_,_,_,_⟩:Oper)).run _ _=_;exact (by unfold execOp;simp only [h142.ev 67 rfl];rfl)))⟩) fun a56 h143=>h143.sk [2,68,67,16,15,14,27,26,10,9,8,7,6,5,4,1,0] rfl fun h144=>Aj hS236 h144 3 rfl rfl (by decide) (fr rfl) κ κ κ (fun _ _ _ _ h=>h) (ν (s6.at_:Int)) (Or.inl ⟨Eq.refl true,fun w1 hSw=>(by cases hSw;exact (by show (execOp _ (⟨_,.assign (.tmp 68),_,_,_,_⟩:Oper)).run _ _=_;exact (by unfold execOp;simp only [h144.ev 68 rfl];rfl)))⟩) fun a57 h145=>h145.sk [3,2,68,67,16,15,14,27,26,10,9,8,7,6,5,1,0] rfl fun h146=>Aj hS236 h146 4 rfl rfl (by decide) (fr rfl) κ κ κ (fun _ _ _ _ h=>h) (ν 0) (Or.inl ⟨Eq.refl true,fun w1 hSw=>(by cases hSw;exact (by show (execOp _ (⟨_,.assign (.const (ν 0)),_,_,_,_⟩:Oper)).run _ _=_;exact rfl))⟩) fun a58 h147=>?_
              refine wpAnyH_done (by kernel_rfl) ?_ _
              refine h147.sk [4,3,2,16,15,14,27,26,10,9,8,7,6,5,1,0] rfl fun h148=>?_
              iterate 3 go_step
              exact PI (L:=acc) (la:=some ⟨lg,0,none⟩) (lc:=j) h148.defs (by rw [hal];exact h148.known (2,.slice (some ⟨lg,0,none⟩) j j) (by simp)) (h148.known (3,ν (s6.at_:Int)) (by simp)) (h148.known (4,ν 0) (by simp)) (HE2.out.trans (if_pos hz)) HOe.out HDe.out.b
            · skip
              iterate 2 go_step
              refine mv h134 rfl fun _ h149=>AO h149 (wn rfl) rfl (by decide) (fr rfl) (fun args=>cF func126 (args:=args) (w:=_)) rfl #[Ap x6,Ap [0]] (by simp only [List.map_toArray,List.map_cons,List.map_nil,h149.ev 64 rfl];rfl) (R:=fun v w'=>∃ r:Λ,v=Ap r∧(r=[]↔∀ x∈x6,x=0)∧Below wx6.heap.size wx6 w') (Kj x6 (by have:=bd6;unfold BD at this;omega) wx6) fun a59 vt wt rt h150=>?_
              obtain ⟨tr,rfl,htr,bt⟩:=rt
              have HDT:=hid (HD6.out.mono bt);have HOT:=hid (Own.mono HOW6.out bt);clear bt
              have hrne:(!decide (tr=[]))=true:=by rw [decide_eq_false (fun q=>hz (htr.1 q))];rfl
              refine wv h150 rfl rfl rfl rfl (.bool true) (by unfold execOp;simp only [h150.ev 65 rfl];exact Ad (Ab2 _ _ _ _ hrne)) fun a60 h151=>h151.sk [66,16,15,14,27,26,10,9,8,7,6,5,4,3,2,1,0] rfl fun h152=>?_
              iterate 3 go_step
              refine wp_cond (t:=true) (h152.ev 66 rfl) ?_
              simp only [if_true]
              refine h152.sk [16,15,14,27,26,10,9,8,7,6,5,4,3,2,1,0] rfl fun h153=>?_
              iterate 2 go_step
              refine h153.sk [16,15,14,27,26,10,9,8,7,6,5,4,3,1,0] rfl fun h154=>mv h154 rfl fun _ h155=>h155.sk [2,16,15,14,27,26,10,9,8,7,6,5,4,1,0] rfl fun h156=>mv h156 rfl fun _ h157=>h157.sk [3,2,16,15,14,27,26,10,9,8,7,6,5,1,0] rfl fun h158=>mv h158 rfl fun _ h159=>?_
              iterate 4 go_step
              simp only [Exit.then,Exit.inBlock]
              have hde:Cj xs=([],0,2):=by rw [HE2.out,if_neg hz]
              exact PI (L:=[]) (la:=none) (lc:=0) h159.defs (h159.known (2,.slice none 0 0) (by simp)) (h159.known (3,ν 0) (by simp)) (h159.known (4,ν 2) (by simp)) hde (Own.nil _ _ _ _) HDT.out.b
        | false=>
          have hne:((x5:Int) != (cr:Int))=false:=by simp;have:¬ x5≠cr:=fun q=>hsum ⟨hno,q⟩;omega
          iterate 2 go_step
          refine wv h94 rfl rfl rfl rfl (.bool false) (by unfold execOp;simp only [h94.ev 6 rfl];exact Ad (Ew (by have z:=HD5.out.d.f.cell (i:=0) (by simp);rw [hno] at z;exact z))) fun a61 h160=>wv h160 rfl rfl rfl rfl (.bool true) (Ff rfl (h160.ev 52 rfl)) fun a62 h161=>mv h161 rfl fun _ h162=>Ak h162 (by rw [Ac (g:=2) (want:=true) (b:=true) rfl (h162.yields (prev:=54) rfl (by simp))];rfl) rfl (by decide) (fr rfl) (ν (x5:Int)) (by unfold execOp;simp only [h162.ev 15 rfl];rfl) fun a63 h163=>Ak h163 (by rw [Ac (g:=2) (want:=true) (b:=true) rfl (h163.yields (prev:=54) rfl (by simp))];rfl) rfl (by decide) (fr rfl) (ν (cr:Int)) (by unfold execOp;simp only [h163.ev 14 rfl];rfl) fun a64 h164=>Ak h164 (by rw [Ac (g:=2) (want:=true) (b:=true) rfl (h164.yields (prev:=54) rfl (by simp))];rfl) rfl (by decide) (fr rfl) (.bool false) (by unfold execOp;simp only [h164.ev 55 rfl,h164.ev 56 rfl];exact Ad (Adi _ _ _ _ _ hne)) fun a65 h165=>wv h165 rfl rfl rfl rfl (.bool false) (Bf rfl (h165.ev 54 rfl) (by rw [if_pos rfl];exact h165.ev 57 rfl)) fun a66 h166=>h166.sk [58,15,14,27,26,10,9,8,7,6,5,4,3,2,1,0] rfl fun h167=>?_
          iterate 3 go_step
          refine wp_cond (t:=false) (h167.ev 58 rfl) ?_
          simp only [Bool.false_eq_true,if_false]
          refine h167.sk [15,14,27,26,10,9,8,7,6,5,4,3,2,1,0] rfl fun h168=>?_
          iterate 4 go_step
          have HDd:=hid (HD5.out.mono (Below.refl _ _).drew);have HOd:=hid (Own.mono HOW5.out (Below.refl _ _).drew)
          refine wp_region_held_drew (S:=fun w'=>Blk w' Bt 193 [Ny Bs Bb Ba]) (by kernel_rfl) HDd.out.t (fun hS20=>?_)
          refine Aj hS20 h168 0 rfl rfl (by decide) (fr rfl) κ κ κ (fun _ _ _ _ h=>h) (.func (.func 124) #[] #[π Bs,π Bb,π Ba]) (Or.inl ⟨Eq.refl true,fun w1 hSw=>(by show (execOp _ (⟨_,.load 193 (.tmp 7),_,_,_,_⟩:Oper)).run _ _=_;exact (by unfold execOp;simp only [h168.ev 7 rfl];exact Ad (Ps (by have z:=hSw.cell (i:=0) (by simp);exact z))))⟩) fun a67 h169=>AD 1 rfl rfl κ fun K hK=>Dt (w':=wx5.drew) h169 rfl (by decide) (fr rfl) (ν (s5.at_:Int)) (by show (execOp _ (⟨_,.load 3 (.tmp 5),_,_,_,_⟩:Oper)).run _ _=_;exact (by unfold execOp;simp only [h169.ev 5 rfl];exact Ad (BP (HDd.out.d.p.cell (i:=0) (by simp))))) fun a68 h170=>hK _ _ hS20 fun hS21=>?_
          clear hK K
          refine AD 2 rfl rfl κ fun K hK=>DD h170 rfl (by decide) (fr rfl) (fun args=>cF func89 (args:=args) (w:=_)) rfl #[ν (s5.at_:Int)] (by simp only [List.map_toArray,List.map_cons,List.map_nil,h170.ev 60 rfl]) (R:=fun v w'=>v=ν (BD s5.at_:Int)∧wx5.drew=w') ((If s5.at_ (by have:=HDd.out.d.at_;omega) wx5.drew).mono fun e w' q=>⟨_,q.1,rfl,q.2⟩) fun a69 vp wp rp h171=>hK _ _ (by rw [← rp.2];exact hS21) fun hS22=>?_
          clear hK K
          obtain ⟨rfl,rfl⟩:=rp
          refine AD 3 rfl rfl κ fun K hK=>QQ h171 rfl (by decide) (fr rfl) (fun args=>cF func124 (args:=args) (w:=_)) rfl #[ν (BD s5.at_:Int)] #[π Bs,π Bb,π Ba] (h171.ev 59 rfl) (by simp only [List.map_toArray,List.map_cons,List.map_nil,h171.ev 61 rfl]) (R:=fun v w'=>v=Ap (Br xs s5 (BD s5.at_)).1∧DecS w w' Bb Ba Bs Bt a c xs (Br xs s5 (BD s5.at_)).2∧Turns (fun k=>k=Ba∨k=Bs) wx5.drew w') (HDd.out.take HR0.out hl (BD s5.at_) (by unfold BD;omega)) fun a70 vx6 wx6 rx6 h172=>hK _ _ rx6.2.1.t fun hS23=>?_
          clear hK K
          obtain ⟨rfl,q1,q2⟩:=rx6
          obtain ⟨x6,hx6⟩:∃ x,x=(Br xs s5 (BD s5.at_)).1:=⟨_,rfl⟩
          obtain ⟨s6,hs6⟩:∃ x,x=(Br xs s5 (BD s5.at_)).2:=⟨_,rfl⟩
          have bd6:x6.length≤(BD s5.at_):=by rw [hx6];exact IJ _ _ _
          rw [← hx6] at h172;rw [← hs6] at q1
          have HOW6:=hid (HDd.out.own HOd.out q2)
          have HX6:=hid hx6;have HS6:=hid hs6;have HD6:=hid q1;clear q1 q2 hx6 hs6
          refine Aj hS23 h172 4 rfl rfl (by decide) (fr rfl) κ κ κ (fun _ _ _ _ h=>h) (Ap x6) (Or.inl ⟨Eq.refl true,fun w1 _=>(by show (execOp _ (⟨_,.assign (.tmp 62),_,_,_,_⟩:Oper)).run _ _=_;exact (by unfold execOp;simp only [h172.ev 62 rfl];exact rfl))⟩) fun a71 h173=>?_
          refine wpAnyH_done κ ?_ _
          refine h173.sk [16,15,14,27,26,10,9,8,7,6,5,4,3,2,1,0] rfl fun h174=>?_
          iterate 2 go_step
          rw [← HS6.out,← HX6.out] at HE1
          go_step
          cases hno:s6.no with
          | true=>
            iterate 2 go_step
            refine wv h174 rfl rfl rfl rfl (.bool true) (by unfold execOp;simp only [h174.ev 6 rfl];exact Ad (Ew (by have z:=HD6.out.d.f.cell (i:=0) (by simp);rw [hno] at z;exact z))) fun a72 h175=>?_
            iterate 3 go_step
            refine wp_cond (t:=true) (h175.ev 63 rfl) ?_
            simp only [if_true]
            refine h175.sk [16,15,14,27,26,10,9,8,7,6,5,4,3,2,1,0] rfl fun h176=>?_
            iterate 2 go_step
            refine h176.sk [16,15,14,27,26,10,9,8,7,6,5,4,3,1,0] rfl fun h177=>mv h177 rfl fun _ h178=>h178.sk [2,16,15,14,27,26,10,9,8,7,6,5,4,1,0] rfl fun h179=>mv h179 rfl fun _ h180=>h180.sk [3,2,16,15,14,27,26,10,9,8,7,6,5,1,0] rfl fun h181=>mv h181 rfl fun _ h182=>?_
            iterate 4 go_step
            simp only [Exit.then,Exit.inBlock]
            have hde:Cj xs=([],0,3):=by rw [HE1.out,if_pos hno]
            exact PI (L:=[]) (la:=none) (lc:=0) h182.defs (h182.known (2,.slice none 0 0) (by simp)) (h182.known (3,ν 0) (by simp)) (h182.known (4,ν 3) (by simp)) hde (Own.nil _ _ _ _) HD6.out.b
          | false=>
            iterate 2 go_step
            refine wv h174 rfl rfl rfl rfl (.bool false) (by unfold execOp;simp only [h174.ev 6 rfl];exact Ad (Ew (by have z:=HD6.out.d.f.cell (i:=0) (by simp);rw [hno] at z;exact z))) fun a73 h183=>?_
            iterate 3 go_step
            refine wp_cond (t:=false) (h183.ev 63 rfl) ?_
            simp only [Bool.false_eq_true,if_false]
            refine h183.sk [16,15,14,27,26,10,9,8,7,6,5,4,3,2,1,0] rfl fun h184=>?_
            iterate 3 go_step
            have HE2:=hid (HE1.out.trans (if_neg (by rw [hno];decide)))
            go_step
            by_cases hz:∀ x∈x6,x=0
            · skip
              iterate 2 go_step
              refine mv h184 rfl fun _ h185=>AO h185 (wn rfl) rfl (by decide) (fr rfl) (fun args=>cF func126 (args:=args) (w:=_)) rfl #[Ap x6,Ap [0]] (by simp only [List.map_toArray,List.map_cons,List.map_nil,h185.ev 64 rfl];rfl) (R:=fun v w'=>∃ r:Λ,v=Ap r∧(r=[]↔∀ x∈x6,x=0)∧Below wx6.heap.size wx6 w') (Kj x6 (by have:=bd6;unfold BD at this;omega) wx6) fun a74 vt wt rt h186=>?_
              obtain ⟨tr,rfl,htr,bt⟩:=rt
              have HDT:=hid (HD6.out.mono bt);have HOT:=hid (Own.mono HOW6.out bt);clear bt
              have hrne:(!decide (tr=[]))=false:=by rw [decide_eq_true (htr.2 hz)];rfl
              refine wv h186 rfl rfl rfl rfl (.bool false) (by unfold execOp;simp only [h186.ev 65 rfl];exact Ad (Ab2 _ _ _ _ hrne)) fun a75 h187=>h187.sk [66,16,15,14,27,26,10,9,8,7,6,5,4,3,2,1,0] rfl fun h188=>?_
              iterate 3 go_step
              refine wp_cond (t:=false) (h188.ev 66 rfl) ?_
              simp only [Bool.false_eq_true,if_false]
              refine h188.sk [16,15,14,27,26,10,9,8,7,6,5,4,3,2,1,0] rfl fun h189=>?_
              iterate 4 go_step
              refine wp_region_held_drew (S:=fun w'=>w'=wt.drew) κ rfl (fun hS318=>?_)
              have HDe:=hid (HDT.out.mono (Below.refl _ _).drew);have HOe:=hid (Own.mono HOT.out (Below.refl _ _).drew)
              refine Aj hS318 h189 0 rfl rfl (by decide) (fr rfl) κ κ κ (fun _ _ _ _ h=>h) (.slice (some ⟨lg,0,none⟩) j j) (Or.inl ⟨Eq.refl true,fun w1 hSw=>(by cases hSw;exact (by show (execOp _ (⟨_,.move (.tmp 10),_,_,_,_⟩:Oper)).run _ _=_;exact (by unfold execOp;simp only [h189.ev 10 rfl];rfl)))⟩) fun a76 h190=>Aj hS318 h190 1 rfl rfl (by decide) (fr rfl) κ κ κ (fun _ _ _ _ h=>h) (ν (s6.at_:Int)) (Or.inl ⟨Eq.refl true,fun w1 hSw=>(by cases hSw;exact (by show (execOp _ (⟨_,.load 3 (.tmp 5),_,_,_,_⟩:Oper)).run _ _=_;exact (by unfold execOp;simp only [h190.ev 5 rfl];exact Ad (BP (HDe.out.d.p.cell (i:=0) (by simp))))))⟩) fun a77 h191=>h191.sk [68,67,16,15,14,27,26,10,9,8,7,6,5,4,3,1,0] rfl fun h192=>Aj hS318 h192 2 rfl rfl (by decide) (fr rfl) κ κ κ (fun _ _ _ _ h=>h) (.slice (some ⟨lg,0,none⟩) j j) (Or.inl ⟨Eq.refl true,fun w1 hSw=>(by cases hSw;exact (by show (execOp _ (⟨_,.assign (.tmp 67),_,_,_,_⟩:Oper)).run _ _=_;exact (by unfold execOp;simp only [h192.ev 67 rfl];rfl)))⟩) fun a78 h193=>h193.sk [2,68,67,16,15,14,27,26,10,9,8,7,6,5,4,1,0] rfl fun h194=>Aj hS318 h194 3 rfl rfl (by decide) (fr rfl) κ κ κ (fun _ _ _ _ h=>h) (ν (s6.at_:Int)) (Or.inl ⟨Eq.refl true,fun w1 hSw=>(by cases hSw;exact (by show (execOp _ (⟨_,.assign (.tmp 68),_,_,_,_⟩:Oper)).run _ _=_;exact (by unfold execOp;simp only [h194.ev 68 rfl];rfl)))⟩) fun a79 h195=>h195.sk [3,2,68,67,16,15,14,27,26,10,9,8,7,6,5,1,0] rfl fun h196=>Aj hS318 h196 4 rfl rfl (by decide) (fr rfl) κ κ κ (fun _ _ _ _ h=>h) (ν 0) (Or.inl ⟨Eq.refl true,fun w1 hSw=>(by cases hSw;exact (by show (execOp _ (⟨_,.assign (.const (ν 0)),_,_,_,_⟩:Oper)).run _ _=_;exact rfl))⟩) fun a80 h197=>?_
              refine wpAnyH_done (by kernel_rfl) ?_ _
              refine h197.sk [4,3,2,16,15,14,27,26,10,9,8,7,6,5,1,0] rfl fun h198=>?_
              iterate 3 go_step
              exact PI (L:=acc) (la:=some ⟨lg,0,none⟩) (lc:=j) h198.defs (by rw [hal];exact h198.known (2,.slice (some ⟨lg,0,none⟩) j j) (by simp)) (h198.known (3,ν (s6.at_:Int)) (by simp)) (h198.known (4,ν 0) (by simp)) (HE2.out.trans (if_pos hz)) HOe.out HDe.out.b
            · skip
              iterate 2 go_step
              refine mv h184 rfl fun _ h199=>AO h199 (wn rfl) rfl (by decide) (fr rfl) (fun args=>cF func126 (args:=args) (w:=_)) rfl #[Ap x6,Ap [0]] (by simp only [List.map_toArray,List.map_cons,List.map_nil,h199.ev 64 rfl];rfl) (R:=fun v w'=>∃ r:Λ,v=Ap r∧(r=[]↔∀ x∈x6,x=0)∧Below wx6.heap.size wx6 w') (Kj x6 (by have:=bd6;unfold BD at this;omega) wx6) fun a81 vt wt rt h200=>?_
              obtain ⟨tr,rfl,htr,bt⟩:=rt
              have HDT:=hid (HD6.out.mono bt);have HOT:=hid (Own.mono HOW6.out bt);clear bt
              have hrne:(!decide (tr=[]))=true:=by rw [decide_eq_false (fun q=>hz (htr.1 q))];rfl
              refine wv h200 rfl rfl rfl rfl (.bool true) (by unfold execOp;simp only [h200.ev 65 rfl];exact Ad (Ab2 _ _ _ _ hrne)) fun a82 h201=>h201.sk [66,16,15,14,27,26,10,9,8,7,6,5,4,3,2,1,0] rfl fun h202=>?_
              iterate 3 go_step
              refine wp_cond (t:=true) (h202.ev 66 rfl) ?_
              simp only [if_true]
              refine h202.sk [16,15,14,27,26,10,9,8,7,6,5,4,3,2,1,0] rfl fun h203=>?_
              iterate 2 go_step
              refine h203.sk [16,15,14,27,26,10,9,8,7,6,5,4,3,1,0] rfl fun h204=>mv h204 rfl fun _ h205=>h205.sk [2,16,15,14,27,26,10,9,8,7,6,5,4,1,0] rfl fun h206=>mv h206 rfl fun _ h207=>h207.sk [3,2,16,15,14,27,26,10,9,8,7,6,5,1,0] rfl fun h208=>mv h208 rfl fun _ h209=>?_
              iterate 4 go_step
              simp only [Exit.then,Exit.inBlock]
              have hde:Cj xs=([],0,2):=by rw [HE2.out,if_neg hz]
              exact PI (L:=[]) (la:=none) (lc:=0) h209.defs (h209.known (2,.slice none 0 0) (by simp)) (h209.known (3,ν 0) (by simp)) (h209.known (4,ν 2) (by simp)) hde (Own.nil _ _ _ _) HDT.out.b
end
end Go.Proofs.YtbfgjinpchbajaaGreatDoor
