/- Parts of the proof. -/
import Derived.Laws.EntriesVeiled
import Derived.Test.YtbfgjinpchbajaaGreatDoorQad
namespace Go.Proofs.YtbfgjinpchbajaaGreatDoor
open Go.RowKit
set_option linter.unusedSimpArgs false
set_option linter.unusedVariables false
set_option linter.unusedSectionVars false
set_option maxRecDepth 100000
set_option maxHeartbeats 8000000
section
theorem Aaq (x y:Operand) (v u:Int) (w:World) {b:Bool} (h:(v == u)=b):(do eqGuard .eql 5 x y (.int .u8 v) (.int .u8 u);binOp .eql 5 (.int .u8 v) (.int .u8 u):Sem Value).run Tryz.prog w=.ok (.bool b) w:=by
  have u3:=υ5
  have a3:=Tryz.isAgg5
  have z3:=Tryz.sizeOf5
  subst h
  go_simp
theorem Ahn (x y:Operand) (v u:Int) (w:World) {b:Bool} (h:decide (v<u)=b):(do eqGuard .lss 5 x y (.int .u8 v) (.int .u8 u);binOp .lss 5 (.int .u8 v) (.int .u8 u):Sem Value).run Tryz.prog w=.ok (.bool b) w:=by
  have u3:=υ5
  have a3:=Tryz.isAgg5
  have z3:=Tryz.sizeOf5
  subst h
  go_simp
theorem Aag (l:List UInt8) (i:Nat) (x:UInt8) (h:l[i]? = some x):∃ hi:i<(bsB l).size,(bsB l)[i]=x:=by
  obtain ⟨h1,h2⟩:=List.getElem?_eq_some_iff.1 h
  exact ⟨by rw [Cr];exact h1,by simpa [bsB,ByteArray.getElem_eq_getElem_data] using h2⟩
theorem SS (l:List UInt8) (i:Nat) (x:UInt8) (h:l[i]? = some x) (w:World):(Instr.index 9 (Aq l) (ν (i:Int))).run Tryz.prog w=.ok (Af x) w:=by
  have u9:=υ9
  obtain ⟨h1,h2⟩:=Aag l i x h
  have h3:=Cr l
  have d0:0≤(i:Int):=ω
  have d1:(i:Int)<((bsB l).size:Int):=ω
  unfold Aq
  go_simp
  rw [if_pos ω]
  rfl
theorem Ux (s:List UInt8) (m n:Nat):(bsB s).extract m n=bsB ((s.take n).drop m):=by
  apply ByteArray.ext
  apply Array.toList_inj.1
  simp [bsB,ByteArray.data_extract]
  rw [List.drop_take]
theorem Ahx (s:List UInt8) (n:Nat) (hn:n≤s.length) (w:World):(Instr.sliceAt 9 (Aq s) none (some (ν (n:Int))) none).run Tryz.prog w=.ok (Aq (s.take n)) w:=by
  have u9:=υ9
  have hsz:=Cr s
  have e:=Ux s 0 n
  rw [List.drop_zero] at e
  have d0:0≤(n:Int):=ω
  have d1:(n:Int)≤((bsB s).size:Int):=ω
  have d2:n≤(bsB s).size:=ω
  unfold Aq
  go_simp
theorem Ago (s:List UInt8) (n:Nat) (hn:n≤s.length) (w:World):(Instr.sliceAt 9 (Aq s) (some (ν (n:Int))) none none).run Tryz.prog w=.ok (Aq (s.drop n)) w:=by
  have u9:=υ9
  have hsz:=Cr s
  have e:=Ux s n s.length
  rw [List.take_length] at e
  have d0:0≤(n:Int):=ω
  have d1:(n:Int)≤((bsB s).size:Int):=ω
  have d2:n≤(bsB s).size:=ω
  unfold Aq
  go_simp
theorem WW (l:List UInt8) (hl:l.length≤1000000) (w:World):Calls Tryz.prog 152 #[Aq l,Af 0] w fun e w'=>∃ v,e=.returned v∧∃ k,k≤l.length∧v=Aq (l.take k)∧(∀ i (hi:i<l.length),k≤i→l[i]=0)∧(k=0∨∃ h:k-1<l.length,l[k-1]≠0)∧w'=w:=by
  go_enter Tryz.func152,Tryz.ntmps152
  iterate 3 go_step
  refine AW (N:=23) (l:=[(0,Aq l),(1,Af 0)]) ⟨rfl,(by intro x hx;simp only [List.mem_cons,List.not_mem_nil,or_false] at hx;rcases hx with rfl | rfl<;>rfl),rfl⟩ fun a2 h1=>?_
  refine wv h1 rfl rfl rfl rfl (Aq []) (by unfold execOp;rfl) fun a4 h3=>?_
  iterate 5 go_step
  refine h3.sk [0,4,1] rfl fun h5=>?_
  refine wp_loop (I:=fun a' w'=>∃ k:Nat,k≤l.length∧Kn 23 [(0,Aq (l.take k)),(4,Aq []),(1,Af 0)] a'∧(∀ i (hi:i<l.length),k≤i→l[i]=0)∧w'=w) (μ:=fun a' _=>match a'.eval (.tmp 0) with | .string s=>s.size | _=>0) ⟨l.length,Nat.le_refl _,by rw [List.take_length];exact h5,fun i hi h2=>absurd h2 ω,rfl⟩ ?_
  clear h5
  rintro aL wL ⟨k,hk,hK,hz,rfl⟩
  have hcl:(l.take k).length=k:=by rw [List.length_take];omega
  by_cases hp:0<k
  · have hpos:decide ((0:Int)<(k:Int))=true:=decide_eq_true ω
    obtain ⟨x,hx⟩:∃ x,x=l[k-1]:=⟨_,rfl⟩
    have hix:(l.take k)[(k-1:Nat)]? = some x:=by rw [List.getElem?_take,if_pos ω,List.getElem?_eq_getElem ω,hx]
    by_cases hx0:x=0
    · have heq:((x.toNat:Int) == ((0:UInt8).toNat:Int))=true:=by rw [hx0];rfl
      have hnx:Aq (l.take (k-1))=Aq ((l.take k).take (k-1)):=by rw [List.take_take,Nat.min_eq_left ω]
      iterate 4 go_step
      refine mv hK rfl fun _ h6=>?_
      refine wv h6 rfl rfl rfl rfl (ν (k:Int)) (by rw [BY rfl (h6.ev 5 rfl) _];rw [hcl]) fun a9 h8=>?_
      refine wv h8 rfl rfl rfl rfl (.bool true) (by unfold execOp;simp only [h8.ev 6 rfl];exact Ac (FI _ _ _ _ _ hpos)) fun a11 h10=>?_
      refine mv h10 rfl fun _ h12=>?_
      refine Ak h12 (by rw [Ab (g:=3) (want:=true) (b:=true) rfl (h12.yields (prev:=8) rfl (by simp))];rfl) rfl (by decide) (fr rfl) (Aq (l.take k)) (by unfold execOp;simp only [h12.ev 0 rfl];rfl) fun a15 h14=>?_
      refine Ak h14 (by rw [Ab (g:=3) (want:=true) (b:=true) rfl (h14.yields (prev:=8) rfl (by simp))];rfl) rfl (by decide) (fr rfl) (Aq (l.take k)) (by unfold execOp;simp only [h14.ev 0 rfl];rfl) fun a17 h16=>?_
      refine Ak h16 (by rw [Ab (g:=3) (want:=true) (b:=true) rfl (h16.yields (prev:=8) rfl (by simp))];rfl) rfl (by decide) (fr rfl) (ν (k:Int)) (by rw [BY rfl (h16.ev 10 rfl) _];rw [hcl]) fun a19 h18=>?_
      refine Ak h18 (by rw [Ab (g:=3) (want:=true) (b:=true) rfl (h18.yields (prev:=8) rfl (by simp))];rfl) rfl (by decide) (fr rfl) (ν ((k-1:Nat):Int)) (by unfold execOp;simp only [h18.ev 11 rfl];exact Ac (EX _ _ _ _ _ ω ω ω _)) fun a21 h20=>?_
      refine Ak h20 (by rw [Ab (g:=3) (want:=true) (b:=true) rfl (h20.yields (prev:=8) rfl (by simp))];rfl) rfl (by decide) (fr rfl) (Af x) (by unfold execOp;simp only [h20.ev 9 rfl,h20.ev 12 rfl];exact Ac (SS _ _ _ hix _)) fun a23 h22=>?_
      refine Ak h22 (by rw [Ab (g:=3) (want:=true) (b:=true) rfl (h22.yields (prev:=8) rfl (by simp))];rfl) rfl (by decide) (fr rfl) (Af 0) (by unfold execOp;simp only [h22.ev 1 rfl];rfl) fun a25 h24=>?_
      refine Ak h24 (by rw [Ab (g:=3) (want:=true) (b:=true) rfl (h24.yields (prev:=8) rfl (by simp))];rfl) rfl (by decide) (fr rfl) (.bool true) (by unfold execOp;simp only [h24.ev 13 rfl,h24.ev 14 rfl];exact Ac (Aaq _ _ _ _ _ heq)) fun a27 h26=>?_
      refine wv h26 rfl rfl rfl rfl (.bool true) (Bf rfl (h26.ev 8 rfl) (by rw [if_pos rfl];exact h26.ev 15 rfl)) fun a29 h28=>?_
      refine h28.sk [16,0,4,1] rfl fun h30=>?_
      iterate 3 go_step
      refine wp_cond (t:=true) (h30.ev 16 rfl) ?_
      simp only [if_true]
      refine h30.sk [0,4,1] rfl fun h31=>?_
      iterate 5 go_step
      refine mv h31 rfl fun _ h32=>?_
      refine mv h32 rfl fun _ h34=>?_
      refine wv h34 rfl rfl rfl rfl (ν (k:Int)) (by rw [BY rfl (h34.ev 18 rfl) _];rw [hcl]) fun a37 h36=>?_
      refine wv h36 rfl rfl rfl rfl (ν ((k-1:Nat):Int)) (by unfold execOp;simp only [h36.ev 19 rfl];exact Ac (EX _ _ _ _ _ ω ω ω _)) fun a39 h38=>?_
      refine wv h38 rfl rfl rfl rfl (Aq (l.take (k-1))) (by unfold execOp;simp only [Option.map_some,Option.map_none,h38.ev 17 rfl,h38.ev 20 rfl];exact Ac (by rw [hnx];exact Ahx (l.take k) (k-1) (by rw [hcl];omega) _)) fun a41 h40=>?_
      refine h40.sk [21,20,19,18,17,4,1] rfl fun h42=>?_
      refine mv h42 rfl fun _ h43=>?_
      refine h43.sk [0,4,1] rfl fun h45=>?_
      iterate 2 go_step
      refine ⟨⟨k-1,ω,h45.subs rfl,fun i hi h2=>?_,rfl⟩,?_⟩
      · by_cases e:i=k-1
        · subst e;rw [← hx,hx0]
        · exact hz i hi ω
      · rw [h45.ev 0 rfl,hK.ev 0 rfl];show (bsB _).size<(bsB _).size;rw [Cr,Cr,hcl];rw [List.length_take];omega
    · have heq:((x.toNat:Int) == ((0:UInt8).toNat:Int))=false:=by simp;intro q;exact hx0 (UInt8.toNat_inj.1 (by simpa using q))
      have hend:k=0∨∃ h:k-1<l.length,l[k-1]≠0:=.inr ⟨ω,by rw [← hx];exact hx0⟩
      iterate 4 go_step
      refine mv hK rfl fun _ h46=>?_
      refine wv h46 rfl rfl rfl rfl (ν (k:Int)) (by rw [BY rfl (h46.ev 5 rfl) _];rw [hcl]) fun a49 h48=>?_
      refine wv h48 rfl rfl rfl rfl (.bool true) (by unfold execOp;simp only [h48.ev 6 rfl];exact Ac (FI _ _ _ _ _ hpos)) fun a51 h50=>?_
      refine mv h50 rfl fun _ h52=>?_
      refine Ak h52 (by rw [Ab (g:=3) (want:=true) (b:=true) rfl (h52.yields (prev:=8) rfl (by simp))];rfl) rfl (by decide) (fr rfl) (Aq (l.take k)) (by unfold execOp;simp only [h52.ev 0 rfl];rfl) fun a55 h54=>?_
      refine Ak h54 (by rw [Ab (g:=3) (want:=true) (b:=true) rfl (h54.yields (prev:=8) rfl (by simp))];rfl) rfl (by decide) (fr rfl) (Aq (l.take k)) (by unfold execOp;simp only [h54.ev 0 rfl];rfl) fun a57 h56=>?_
      refine Ak h56 (by rw [Ab (g:=3) (want:=true) (b:=true) rfl (h56.yields (prev:=8) rfl (by simp))];rfl) rfl (by decide) (fr rfl) (ν (k:Int)) (by rw [BY rfl (h56.ev 10 rfl) _];rw [hcl]) fun a59 h58=>?_
      refine Ak h58 (by rw [Ab (g:=3) (want:=true) (b:=true) rfl (h58.yields (prev:=8) rfl (by simp))];rfl) rfl (by decide) (fr rfl) (ν ((k-1:Nat):Int)) (by unfold execOp;simp only [h58.ev 11 rfl];exact Ac (EX _ _ _ _ _ ω ω ω _)) fun a61 h60=>?_
      refine Ak h60 (by rw [Ab (g:=3) (want:=true) (b:=true) rfl (h60.yields (prev:=8) rfl (by simp))];rfl) rfl (by decide) (fr rfl) (Af x) (by unfold execOp;simp only [h60.ev 9 rfl,h60.ev 12 rfl];exact Ac (SS _ _ _ hix _)) fun a63 h62=>?_
      refine Ak h62 (by rw [Ab (g:=3) (want:=true) (b:=true) rfl (h62.yields (prev:=8) rfl (by simp))];rfl) rfl (by decide) (fr rfl) (Af 0) (by unfold execOp;simp only [h62.ev 1 rfl];rfl) fun a65 h64=>?_
      refine Ak h64 (by rw [Ab (g:=3) (want:=true) (b:=true) rfl (h64.yields (prev:=8) rfl (by simp))];rfl) rfl (by decide) (fr rfl) (.bool false) (by unfold execOp;simp only [h64.ev 13 rfl,h64.ev 14 rfl];exact Ac (Aaq _ _ _ _ _ heq)) fun a67 h66=>?_
      refine wv h66 rfl rfl rfl rfl (.bool false) (Bf rfl (h66.ev 8 rfl) (by rw [if_pos rfl];exact h66.ev 15 rfl)) fun a69 h68=>?_
      refine h68.sk [16,0,4,1] rfl fun h70=>?_
      iterate 3 go_step
      refine wp_cond (t:=false) (h70.ev 16 rfl) ?_
      simp only [Bool.false_eq_true,if_false]
      refine h70.sk [0,4,1] rfl fun h71=>?_
      iterate 7 go_step
      refine mv h71 rfl fun _ h72=>?_
      refine h72.sk [22,0,1] rfl fun h74=>?_
      refine mv h74 rfl fun _ h75=>?_
      refine h75.sk [4,0,1] rfl fun h77=>?_
      iterate 4 go_step
      refine bodyPost_ret (AK rfl (h77.known (4,Aq (l.take k)) (by simp))) h77.defs ?_
      exact ⟨_,rfl,k,hk,rfl,hz,hend,rfl⟩
  · have hpos:decide ((0:Int)<(k:Int))=false:=decide_eq_false ω
    have hend:k=0∨∃ h:k-1<l.length,l[k-1]≠0:=.inl ω
    iterate 4 go_step
    refine mv hK rfl fun _ h78=>?_
    refine wv h78 rfl rfl rfl rfl (ν (k:Int)) (by rw [BY rfl (h78.ev 5 rfl) _];rw [hcl]) fun a81 h80=>?_
    refine wv h80 rfl rfl rfl rfl (.bool false) (by unfold execOp;simp only [h80.ev 6 rfl];exact Ac (FI _ _ _ _ _ hpos)) fun a83 h82=>?_
    refine mv h82 rfl fun _ h84=>?_
    refine AG h84 (by rw [Ab (g:=3) (want:=true) (b:=false) rfl (h84.yields (prev:=8) rfl (by simp))];rfl) rfl (by decide) (fr rfl) fun a87 h86=>?_
    refine AG h86 (by rw [Ab (g:=3) (want:=true) (b:=false) rfl (h86.yields (prev:=8) rfl (by simp))];rfl) rfl (by decide) (fr rfl) fun a89 h88=>?_
    refine AG h88 (by rw [Ab (g:=3) (want:=true) (b:=false) rfl (h88.yields (prev:=8) rfl (by simp))];rfl) rfl (by decide) (fr rfl) fun a91 h90=>?_
    refine AG h90 (by rw [Ab (g:=3) (want:=true) (b:=false) rfl (h90.yields (prev:=8) rfl (by simp))];rfl) rfl (by decide) (fr rfl) fun a93 h92=>?_
    refine AG h92 (by rw [Ab (g:=3) (want:=true) (b:=false) rfl (h92.yields (prev:=8) rfl (by simp))];rfl) rfl (by decide) (fr rfl) fun a95 h94=>?_
    refine AG h94 (by rw [Ab (g:=3) (want:=true) (b:=false) rfl (h94.yields (prev:=8) rfl (by simp))];rfl) rfl (by decide) (fr rfl) fun a97 h96=>?_
    refine AG h96 (by rw [Ab (g:=3) (want:=true) (b:=false) rfl (h96.yields (prev:=8) rfl (by simp))];rfl) rfl (by decide) (fr rfl) fun a99 h98=>?_
    refine wv h98 rfl rfl rfl rfl (.bool false) (Bf rfl (h98.ev 8 rfl) rfl) fun a101 h100=>?_
    refine h100.sk [16,0,4,1] rfl fun h102=>?_
    iterate 3 go_step
    refine wp_cond (t:=false) (h102.ev 16 rfl) ?_
    simp only [Bool.false_eq_true,if_false]
    refine h102.sk [0,4,1] rfl fun h103=>?_
    iterate 7 go_step
    refine mv h103 rfl fun _ h104=>?_
    refine h104.sk [22,0,1] rfl fun h106=>?_
    refine mv h106 rfl fun _ h107=>?_
    refine h107.sk [4,0,1] rfl fun h109=>?_
    iterate 4 go_step
    refine bodyPost_ret (AK rfl (h109.known (4,Aq (l.take k)) (by simp))) h109.defs ?_
    exact ⟨_,rfl,k,hk,rfl,hz,hend,rfl⟩
theorem WV (l:List UInt8) (hl:l.length≤1000000) (w:World):Calls Tryz.prog 151 #[Aq l,Af 0] w fun e w'=>∃ v,e=.returned v∧∃ k,k≤l.length∧v=Aq (l.drop k)∧(∀ i (hi:i<l.length),i<k→l[i]=0)∧(k=l.length∨∃ h:k<l.length,l[k]≠0)∧w'=w:=by
  go_enter Tryz.func151,Tryz.ntmps151
  iterate 3 go_step
  refine AW (N:=17) (l:=[(0,Aq l),(1,Af 0)]) ⟨rfl,(by intro x hx;simp only [List.mem_cons,List.not_mem_nil,or_false] at hx;rcases hx with rfl | rfl<;>rfl),rfl⟩ fun a2 h1=>?_
  refine wv h1 rfl rfl rfl rfl (Aq []) (by unfold execOp;rfl) fun a4 h3=>?_
  iterate 5 go_step
  refine h3.sk [0,4,1] rfl fun h5=>?_
  refine wp_loop (I:=fun a' w'=>∃ k:Nat,k≤l.length∧Kn 17 [(0,Aq (l.drop k)),(4,Aq []),(1,Af 0)] a'∧(∀ i (hi:i<l.length),i<k→l[i]=0)∧w'=w) (μ:=fun a' _=>match a'.eval (.tmp 0) with | .string s=>s.size | _=>0) ⟨0,Nat.zero_le _,by rw [List.drop_zero];exact h5,fun i hi h2=>absurd h2 ω,rfl⟩ ?_
  clear h5
  rintro aL wL ⟨k,hk,hK,hz,rfl⟩
  have hcl:(l.drop k).length=(l.length-k:Nat):=by rw [List.length_drop]
  by_cases hp:k<l.length
  · have hpos:decide ((0:Int)<((l.length-k:Nat):Int))=true:=decide_eq_true ω
    obtain ⟨x,hx⟩:∃ x,x=l[k]:=⟨_,rfl⟩
    have hix:(l.drop k)[(0:Nat)]? = some x:=by rw [List.getElem?_drop,Nat.add_zero,List.getElem?_eq_getElem hp,hx]
    by_cases hx0:x=0
    · have heq:((x.toNat:Int) == ((0:UInt8).toNat:Int))=true:=by rw [hx0];rfl
      have hnx:Aq (l.drop (k+1))=Aq ((l.drop k).drop 1):=by rw [List.drop_drop]
      iterate 4 go_step
      refine mv hK rfl fun _ h6=>?_
      refine wv h6 rfl rfl rfl rfl (ν ((l.length-k:Nat):Int)) (by rw [BY rfl (h6.ev 5 rfl) _];rw [hcl]) fun a9 h8=>?_
      refine wv h8 rfl rfl rfl rfl (.bool true) (by unfold execOp;simp only [h8.ev 6 rfl];exact Ac (FI _ _ _ _ _ hpos)) fun a11 h10=>?_
      refine mv h10 rfl fun _ h12=>?_
      refine Ak h12 (by rw [Ab (g:=3) (want:=true) (b:=true) rfl (h12.yields (prev:=8) rfl (by simp))];rfl) rfl (by decide) (fr rfl) (Aq (l.drop k)) (by unfold execOp;simp only [h12.ev 0 rfl];rfl) fun a15 h14=>?_
      refine Ak h14 (by rw [Ab (g:=3) (want:=true) (b:=true) rfl (h14.yields (prev:=8) rfl (by simp))];rfl) rfl (by decide) (fr rfl) (Af x) (by unfold execOp;simp only [h14.ev 9 rfl];exact Ac (SS _ _ _ hix _)) fun a17 h16=>?_
      refine Ak h16 (by rw [Ab (g:=3) (want:=true) (b:=true) rfl (h16.yields (prev:=8) rfl (by simp))];rfl) rfl (by decide) (fr rfl) (Af 0) (by unfold execOp;simp only [h16.ev 1 rfl];rfl) fun a19 h18=>?_
      refine Ak h18 (by rw [Ab (g:=3) (want:=true) (b:=true) rfl (h18.yields (prev:=8) rfl (by simp))];rfl) rfl (by decide) (fr rfl) (.bool true) (by unfold execOp;simp only [h18.ev 10 rfl,h18.ev 11 rfl];exact Ac (Aaq _ _ _ _ _ heq)) fun a21 h20=>?_
      refine wv h20 rfl rfl rfl rfl (.bool true) (Bf rfl (h20.ev 8 rfl) (by rw [if_pos rfl];exact h20.ev 12 rfl)) fun a23 h22=>?_
      refine h22.sk [13,0,4,1] rfl fun h24=>?_
      iterate 3 go_step
      refine wp_cond (t:=true) (h24.ev 13 rfl) ?_
      simp only [if_true]
      refine h24.sk [0,4,1] rfl fun h25=>?_
      iterate 5 go_step
      refine mv h25 rfl fun _ h26=>?_
      refine wv h26 rfl rfl rfl rfl (Aq (l.drop (k+1))) (by unfold execOp;simp only [Option.map_some,Option.map_none,h26.ev 14 rfl];exact Ac (by rw [hnx];exact Ago (l.drop k) 1 (by rw [hcl];omega) _)) fun a29 h28=>?_
      refine h28.sk [15,14,4,1] rfl fun h30=>?_
      refine mv h30 rfl fun _ h31=>?_
      refine h31.sk [0,4,1] rfl fun h33=>?_
      iterate 2 go_step
      refine ⟨⟨k+1,ω,h33.subs rfl,fun i hi h2=>?_,rfl⟩,?_⟩
      · by_cases e:i=k
        · subst e;rw [← hx,hx0]
        · exact hz i hi ω
      · rw [h33.ev 0 rfl,hK.ev 0 rfl];show (bsB _).size<(bsB _).size;rw [Cr,Cr,hcl];rw [List.length_drop];omega
    · have heq:((x.toNat:Int) == ((0:UInt8).toNat:Int))=false:=by simp;intro q;exact hx0 (UInt8.toNat_inj.1 (by simpa using q))
      have hend:k=l.length∨∃ h:k<l.length,l[k]≠0:=.inr ⟨ω,by rw [← hx];exact hx0⟩
      iterate 4 go_step
      refine mv hK rfl fun _ h34=>?_
      refine wv h34 rfl rfl rfl rfl (ν ((l.length-k:Nat):Int)) (by rw [BY rfl (h34.ev 5 rfl) _];rw [hcl]) fun a37 h36=>?_
      refine wv h36 rfl rfl rfl rfl (.bool true) (by unfold execOp;simp only [h36.ev 6 rfl];exact Ac (FI _ _ _ _ _ hpos)) fun a39 h38=>?_
      refine mv h38 rfl fun _ h40=>?_
      refine Ak h40 (by rw [Ab (g:=3) (want:=true) (b:=true) rfl (h40.yields (prev:=8) rfl (by simp))];rfl) rfl (by decide) (fr rfl) (Aq (l.drop k)) (by unfold execOp;simp only [h40.ev 0 rfl];rfl) fun a43 h42=>?_
      refine Ak h42 (by rw [Ab (g:=3) (want:=true) (b:=true) rfl (h42.yields (prev:=8) rfl (by simp))];rfl) rfl (by decide) (fr rfl) (Af x) (by unfold execOp;simp only [h42.ev 9 rfl];exact Ac (SS _ _ _ hix _)) fun a45 h44=>?_
      refine Ak h44 (by rw [Ab (g:=3) (want:=true) (b:=true) rfl (h44.yields (prev:=8) rfl (by simp))];rfl) rfl (by decide) (fr rfl) (Af 0) (by unfold execOp;simp only [h44.ev 1 rfl];rfl) fun a47 h46=>?_
      refine Ak h46 (by rw [Ab (g:=3) (want:=true) (b:=true) rfl (h46.yields (prev:=8) rfl (by simp))];rfl) rfl (by decide) (fr rfl) (.bool false) (by unfold execOp;simp only [h46.ev 10 rfl,h46.ev 11 rfl];exact Ac (Aaq _ _ _ _ _ heq)) fun a49 h48=>?_
      refine wv h48 rfl rfl rfl rfl (.bool false) (Bf rfl (h48.ev 8 rfl) (by rw [if_pos rfl];exact h48.ev 12 rfl)) fun a51 h50=>?_
      refine h50.sk [13,0,4,1] rfl fun h52=>?_
      iterate 3 go_step
      refine wp_cond (t:=false) (h52.ev 13 rfl) ?_
      simp only [Bool.false_eq_true,if_false]
      refine h52.sk [0,4,1] rfl fun h53=>?_
      iterate 7 go_step
      refine mv h53 rfl fun _ h54=>?_
      refine h54.sk [16,0,1] rfl fun h56=>?_
      refine mv h56 rfl fun _ h57=>?_
      refine h57.sk [4,0,1] rfl fun h59=>?_
      iterate 4 go_step
      refine bodyPost_ret (AK rfl (h59.known (4,Aq (l.drop k)) (by simp))) h59.defs ?_
      exact ⟨_,rfl,k,hk,rfl,hz,hend,rfl⟩
  · have hpos:decide ((0:Int)<((l.length-k:Nat):Int))=false:=decide_eq_false ω
    have hend:k=l.length∨∃ h:k<l.length,l[k]≠0:=.inl ω
    iterate 4 go_step
    refine mv hK rfl fun _ h60=>?_
    refine wv h60 rfl rfl rfl rfl (ν ((l.length-k:Nat):Int)) (by rw [BY rfl (h60.ev 5 rfl) _];rw [hcl]) fun a63 h62=>?_
    refine wv h62 rfl rfl rfl rfl (.bool false) (by unfold execOp;simp only [h62.ev 6 rfl];exact Ac (FI _ _ _ _ _ hpos)) fun a65 h64=>?_
    refine mv h64 rfl fun _ h66=>?_
    refine AG h66 (by rw [Ab (g:=3) (want:=true) (b:=false) rfl (h66.yields (prev:=8) rfl (by simp))];rfl) rfl (by decide) (fr rfl) fun a69 h68=>?_
    refine AG h68 (by rw [Ab (g:=3) (want:=true) (b:=false) rfl (h68.yields (prev:=8) rfl (by simp))];rfl) rfl (by decide) (fr rfl) fun a71 h70=>?_
    refine AG h70 (by rw [Ab (g:=3) (want:=true) (b:=false) rfl (h70.yields (prev:=8) rfl (by simp))];rfl) rfl (by decide) (fr rfl) fun a73 h72=>?_
    refine AG h72 (by rw [Ab (g:=3) (want:=true) (b:=false) rfl (h72.yields (prev:=8) rfl (by simp))];rfl) rfl (by decide) (fr rfl) fun a75 h74=>?_
    refine wv h74 rfl rfl rfl rfl (.bool false) (Bf rfl (h74.ev 8 rfl) rfl) fun a77 h76=>?_
    refine h76.sk [13,0,4,1] rfl fun h78=>?_
    iterate 3 go_step
    refine wp_cond (t:=false) (h78.ev 13 rfl) ?_
    simp only [Bool.false_eq_true,if_false]
    refine h78.sk [0,4,1] rfl fun h79=>?_
    iterate 7 go_step
    refine mv h79 rfl fun _ h80=>?_
    refine h80.sk [16,0,1] rfl fun h82=>?_
    refine mv h82 rfl fun _ h83=>?_
    refine h83.sk [4,0,1] rfl fun h85=>?_
    iterate 4 go_step
    refine bodyPost_ret (AK rfl (h85.known (4,Aq (l.drop k)) (by simp))) h85.defs ?_
    exact ⟨_,rfl,k,hk,rfl,hz,hend,rfl⟩
theorem Adg (x y:Operand) (s t:List UInt8) (w:World) {b:Bool} (h:decide (s=t)=b):(do eqGuard .eql 9 x y (Aq s) (Aq t);binOp .eql 9 (Aq s) (Aq t):Sem Value).run Tryz.prog w=.ok (.bool b) w:=by
  have u3:=υ9
  have a3:=Tryz.isAgg9
  have z3:=Tryz.sizeOf9
  have e:((bsB s).toList == (bsB t).toList)=b:=by
    rw [ByteArray.toList_eq,ByteArray.toList_eq,Gj,Gj,← h]
    by_cases q:s=t<;>simp [q]
  unfold Aq
  go_simp
theorem Aao (x y:Operand) (v u:Int) (w:World) {b:Bool} (h:(v == u)=b):(do eqGuard .eql 3 x y (ν v) (ν u);binOp .eql 3 (ν v) (ν u):Sem Value).run Tryz.prog w=.ok (.bool b) w:=by
  have u3:=υ3
  have a3:=Tryz.isAgg3
  have z3:=Tryz.sizeOf3
  subst h
  go_simp
theorem WX {l:List UInt8} {k j:Nat} (hk:k≤l.length) (hj:j≤(l.take k).length) (hz:∀ i (hi:i<l.length),k≤i→l[i]=0) (hend:k=0∨∃ h:k-1<l.length,l[k-1]≠0)
    (hz2:∀ i (hi:i<(l.take k).length),i<j→(l.take k)[i]=0) (hend2:j=(l.take k).length∨∃ h:j<(l.take k).length,(l.take k)[j]≠0):(l.take k).drop j=[]↔∀ x∈l,x=0:=by
  have hlk:(l.take k).length=k:=by rw [List.length_take];omega
  constructor
  · intro h x hx
    have hjk:j=k:=by
      have:=congrArg List.length h
      rw [List.length_drop,hlk] at this
      simp at this;omega
    obtain ⟨i,hi,rfl⟩:=List.getElem_of_mem hx
    by_cases hik:i<k
    · have:=hz2 i ω ω
      rwa [List.getElem_take] at this
    · exact hz i hi ω
  · intro h
    have hk0:k=0:=by
      rcases hend with h1 | ⟨h1,h2⟩
      · exact h1
      · exact absurd (h _ (List.getElem_mem h1)) h2
    subst hk0
    simp
theorem Kg (l:List UInt8) (hl:l.length≤1000000) (w:World):Calls Tryz.prog 126 #[Aq l,Aq [0]] w fun e w'=>∃ v,e=.returned v∧∃ r:List UInt8,v=Aq r∧(r=[]↔∀ x∈l,x=0)∧Below w.heap.size w w':=by
  go_enter Tryz.func126,Tryz.ntmps126
  iterate 3 go_step
  refine AW (N:=43) (l:=[(0,Aq l),(1,Aq [0])]) ⟨rfl,(by intro x hx;simp only [List.mem_cons,List.not_mem_nil,or_false] at hx;rcases hx with rfl | rfl<;>rfl),rfl⟩ fun a2 h1=>?_
  refine wv h1 rfl rfl rfl rfl (Aq []) (by unfold execOp;rfl) fun a4 h3=>?_
  iterate 4 go_step
  by_cases h0:l=[]
  · have he0:decide (l=[])=true:=decide_eq_true h0
    iterate 2 go_step
    refine mv h3 rfl fun _ h5=>?_
    refine wv h5 rfl rfl rfl rfl (.bool true) (by unfold execOp;simp only [h5.ev 7 rfl];exact Ac (Adg _ _ _ _ _ he0)) fun a8 h7=>?_
    refine mv h7 rfl fun _ h9=>?_
    refine AG h9 (by rw [Ab (g:=2) (want:=false) (b:=true) rfl (h9.yields (prev:=9) rfl (by simp))];rfl) rfl (by decide) (fr rfl) fun a12 h11=>?_
    refine AG h11 (by rw [Ab (g:=2) (want:=false) (b:=true) rfl (h11.yields (prev:=9) rfl (by simp))];rfl) rfl (by decide) (fr rfl) fun a14 h13=>?_
    refine wv h13 rfl rfl rfl rfl (.bool true) (Bf rfl (h13.ev 9 rfl) rfl) fun a16 h15=>?_
    refine h15.sk [12,4,0,1] rfl fun h17=>?_
    iterate 3 go_step
    refine wp_cond (t:=true) (h17.ev 12 rfl) ?_
    simp only [if_true]
    refine h17.sk [4,0,1] rfl fun h18=>?_
    iterate 2 go_step
    refine mv h18 rfl fun _ h19=>?_
    refine h19.sk [13,0,1] rfl fun h21=>?_
    refine mv h21 rfl fun _ h22=>?_
    refine h22.sk [4,0,1] rfl fun h24=>?_
    iterate 4 go_step
    simp only [Exit.then,Exit.inBlock]
    show bodyPost _ _ _ Exit.ret _ _
    refine bodyPost_ret (AK rfl (h24.known (4,Aq l) (by simp))) h24.defs ?_
    exact ⟨_,rfl,l,rfl,by rw [h0];simp,Below.refl _ _⟩
  · have he0:decide (l=[])=false:=decide_eq_false h0
    iterate 2 go_step
    refine mv h3 rfl fun _ h25=>?_
    refine wv h25 rfl rfl rfl rfl (.bool false) (by unfold execOp;simp only [h25.ev 7 rfl];exact Ac (Adg _ _ _ _ _ he0)) fun a28 h27=>?_
    refine mv h27 rfl fun _ h29=>?_
    refine Ak h29 (by rw [Ab (g:=2) (want:=false) (b:=false) rfl (h29.yields (prev:=9) rfl (by simp))];rfl) rfl (by decide) (fr rfl) (Aq [0]) (by unfold execOp;simp only [h29.ev 1 rfl];rfl) fun a32 h31=>?_
    refine Ak h31 (by rw [Ab (g:=2) (want:=false) (b:=false) rfl (h31.yields (prev:=9) rfl (by simp))];rfl) rfl (by decide) (fr rfl) (.bool false) (by unfold execOp;simp only [h31.ev 10 rfl];exact Ac (Adg _ _ _ _ _ (by decide))) fun a34 h33=>?_
    refine wv h33 rfl rfl rfl rfl (.bool false) (Bf rfl (h33.ev 9 rfl) (by rw [if_neg (by simp)];exact h33.ev 11 rfl)) fun a36 h35=>?_
    refine h35.sk [12,4,0,1] rfl fun h37=>?_
    iterate 3 go_step
    refine wp_cond (t:=false) (h37.ev 12 rfl) ?_
    simp only [Bool.false_eq_true,if_false]
    refine h37.sk [4,0,1] rfl fun h38=>?_
    iterate 6 go_step
    refine mv h38 rfl fun _ h39=>?_
    refine wv h39 rfl rfl rfl rfl (ν (([0]:List UInt8).length:Int)) (BY rfl (h39.ev 14 rfl) _) fun a42 h41=>?_
    refine wv h41 rfl rfl rfl rfl (.bool true) (by unfold execOp;simp only [h41.ev 15 rfl];exact Ac (Aao _ _ _ _ _ (by rfl))) fun a44 h43=>?_
    refine mv h43 rfl fun _ h45=>?_
    refine Ak h45 (by rw [Ab (g:=3) (want:=true) (b:=true) rfl (h45.yields (prev:=17) rfl (by simp))];rfl) rfl (by decide) (fr rfl) (Aq [0]) (by unfold execOp;simp only [h45.ev 1 rfl];rfl) fun a48 h47=>?_
    refine Ak h47 (by rw [Ab (g:=3) (want:=true) (b:=true) rfl (h47.yields (prev:=17) rfl (by simp))];rfl) rfl (by decide) (fr rfl) (Af 0) (by unfold execOp;simp only [h47.ev 18 rfl];exact Ac (SS [0] 0 0 rfl _)) fun a50 h49=>?_
    refine Ak h49 (by rw [Ab (g:=3) (want:=true) (b:=true) rfl (h49.yields (prev:=17) rfl (by simp))];rfl) rfl (by decide) (fr rfl) (.bool true) (by unfold execOp;simp only [h49.ev 19 rfl];exact Ac (Ahn _ _ _ _ _ (by decide))) fun a52 h51=>?_
    refine wv h51 rfl rfl rfl rfl (.bool true) (Bf rfl (h51.ev 17 rfl) (by rw [if_pos rfl];exact h51.ev 20 rfl)) fun a54 h53=>?_
    refine h53.sk [21,4,0,1] rfl fun h55=>?_
    iterate 3 go_step
    refine wp_cond (t:=true) (h55.ev 21 rfl) ?_
    simp only [if_true]
    refine h55.sk [4,0,1] rfl fun h56=>?_
    go_step
    refine wp_region_held_drew (S:=fun _=>True) κ trivial (fun hS4=>?_)
    refine Aj hS4 h56 0 rfl rfl (by decide) (fr rfl) κ κ κ (fun _ _ _ _ h=>h) (Aq l) (Or.inl ⟨Eq.refl true,fun w1 _=>(by show (execOp _ (⟨_,.move (.tmp 0),_,_,_,_⟩:Oper)).run _ _=_;exact (by unfold execOp;simp only [h56.ev 0 rfl];exact rfl))⟩) fun a58 h57=>?_
    refine Aj hS4 h57 1 rfl rfl (by decide) (fr rfl) κ κ κ (fun _ _ _ _ h=>h) (Aq [0]) (Or.inl ⟨Eq.refl true,fun w1 _=>(by show (execOp _ (⟨_,.move (.tmp 1),_,_,_,_⟩:Oper)).run _ _=_;exact (by unfold execOp;simp only [h57.ev 1 rfl];exact rfl))⟩) fun a60 h59=>?_
    refine Aj hS4 h59 2 rfl rfl (by decide) (fr rfl) κ κ κ (fun _ _ _ _ h=>h) (Af 0) (Or.inl ⟨Eq.refl true,fun w1 _=>(by show (execOp _ (⟨_,.index 9 (.tmp 23) (.const (ν 0)),_,_,_,_⟩:Oper)).run _ _=_;exact (by unfold execOp;simp only [h59.ev 23 rfl];exact Ac (SS [0] 0 0 rfl _)))⟩) fun a62 h61=>?_
    refine Aj hS4 h61 4 rfl rfl (by decide) (fr rfl) κ κ κ (fun _ _ _ _ h=>h) (Aq [0]) (Or.inl ⟨Eq.refl true,fun w1 _=>(by show (execOp _ (⟨_,.move (.tmp 1),_,_,_,_⟩:Oper)).run _ _=_;exact (by unfold execOp;simp only [h61.ev 1 rfl];exact rfl))⟩) fun a64 h63=>?_
    refine Aj hS4 h63 5 rfl rfl (by decide) (fr rfl) κ κ κ (fun _ _ _ _ h=>h) (Af 0) (Or.inl ⟨Eq.refl true,fun w1 _=>(by show (execOp _ (⟨_,.index 9 (.tmp 26) (.const (ν 0)),_,_,_,_⟩:Oper)).run _ _=_;exact (by unfold execOp;simp only [h63.ev 26 rfl];exact Ac (SS [0] 0 0 rfl _)))⟩) fun a66 h65=>?_
    refine AE 3 rfl rfl κ fun K hK=>DA h65 rfl (by decide) (fr rfl) (fun args=>cF Tryz.func152 (args:=args) (w:=_)) rfl #[Aq l,Af 0] (by simp only [List.map_toArray,List.map_cons,List.map_nil,h65.ev 22 rfl,h65.ev 24 rfl]) (WW l hl w.drew) fun a68 v1 w1 r1 h67=>hK _ _ trivial fun hS5=>?_
    clear hK K
    obtain ⟨k,hk,rfl,hz,hend,rfl⟩:=r1
    refine AE 6 rfl rfl κ fun K hK=>DA h67 rfl (by decide) (fr rfl) (fun args=>cF Tryz.func151 (args:=args) (w:=_)) rfl #[Aq (l.take k),Af 0] (by simp only [List.map_toArray,List.map_cons,List.map_nil,h67.ev 25 rfl,h67.ev 27 rfl]) (WV (l.take k) (by rw [List.length_take];omega) w.drew) fun a70 v2 w2 r2 h69=>hK _ _ trivial fun hS6=>?_
    clear hK K
    obtain ⟨j,hj,rfl,hz2,hend2,rfl⟩:=r2
    refine h69.sk [28,25,27,26,24,23,22,0,1] rfl fun h71=>?_
    refine Aj hS6 h71 7 rfl rfl (by decide) (fr rfl) κ κ κ (fun _ _ _ _ h=>h) (Aq ((l.take k).drop j)) (Or.inl ⟨Eq.refl true,fun w1 _=>(by show (execOp _ (⟨_,.assign (.tmp 28),_,_,_,_⟩:Oper)).run _ _=_;exact (by unfold execOp;simp only [h71.ev 28 rfl];exact rfl))⟩) fun a73 h72=>?_
    refine wpAnyH_done κ ?_ _
    refine h72.sk [4,0,1] rfl fun h74=>?_
    iterate 3 go_step
    simp only [Exit.then,Exit.inBlock]
    show bodyPost _ _ _ Exit.ret _ _
    refine bodyPost_ret (AK rfl (h74.known (4,Aq ((l.take k).drop j)) (by simp))) h74.defs ?_
    exact ⟨_,rfl,_,rfl,WX hk hj hz hend hz2 hend2,(Below.refl _ w).drew⟩
end
section
def zPt:PtM:=⟨0,[]⟩
def DI (xs:List UInt8):Nat→DS→List PtM→Option (List PtM×DS)
  | 0,s,acc=>some (acc,s)
  | n+1,s,acc=>
    if 256<(Br xs (Br xs s 4).2 2).1 then none
    else DI xs n (Bu xs (Br xs (Br xs s 4).2 2).2 (Br xs (Br xs s 4).2 2).1).2 (acc++[⟨((Br xs s 4).1:Int),(Bu xs (Br xs (Br xs s 4).2 2).2 (Br xs (Br xs s 4).2 2).1).1⟩])
def JA (xs:List UInt8) (L:List PtM) (s:DS):List PtM×Int×Int:=
  if (Br xs s 4).2.no=false∧(Br xs s 4).1≠CO (xs.take s.at_) then ([],0,4)
  else if (Bu xs (Br xs s 4).2 (Bz (Br xs s 4).2.at_)).2.no=true then ([],0,3)
  else if ∀ x∈(Bu xs (Br xs s 4).2 (Bz (Br xs s 4).2.at_)).1,x=0 then (L,((Bu xs (Br xs s 4).2 (Bz (Br xs s 4).2.at_)).2.at_:Int),0) else ([],0,2)
def XV (xs:List UInt8):Option (List PtM×DS)→List PtM×Int×Int
  | none=>([],0,2)
  | some r=>JA xs r.1 r.2
def Ci (xs:List UInt8):List PtM×Int×Int:=
  if 64<(Br xs ⟨0,false⟩ 2).1 then ([],0,2) else XV xs (DI xs (Br xs ⟨0,false⟩ 2).1 (Br xs ⟨0,false⟩ 2).2 [])
theorem Ye (xs:List UInt8) (i k:Int):(AX xs i k).getD 0≤9223372036854775807:=by
  unfold AX;split
  · split
    · next h=>exact h
    · exact Nat.zero_le _
  · exact Nat.zero_le _
theorem JR (xs:List UInt8) (s:DS) (k:Nat):(Br xs s k).1≤9223372036854775807:=Ye _ _ _
theorem Ya (n:Nat):(List.replicate n zPt).flatMap ptC=(madeCells (Value.agg (ptC zPt).toArray).cells (n*2)).toList:=by
  apply List.ext_getElem?
  intro i
  by_cases hi:i<n*2
  · have h1:=JH ptC 2 JW (List.replicate n zPt) (i / 2) (i % 2) (by rw [List.length_replicate];omega) ω
    rw [show i / 2*2+i % 2=i by omega] at h1
    rw [h1,List.getElem_replicate]
    have hr:(madeCells (Value.agg (ptC zPt).toArray).cells (n*2)).toList[i]? = some ((#[Value.int .i64 0,Aq []]:Array Value)[i % 2]!):=by
      rw [Array.getElem?_toList]
      unfold madeCells
      rw [Array.getElem?_map,Array.getElem?_range,if_pos hi]
      rfl
    rw [hr]
    show (ptC zPt)[i % 2]? = _
    rcases (ω:i % 2=0∨i % 2=1) with e | e<;>rw [e]<;>rfl
  · rw [List.getElem?_eq_none (by rw [Abq,List.length_replicate];omega),List.getElem?_eq_none (by rw [Array.length_toList,size_madeCells];omega)]
theorem TZ {w:World} {ops:Array Oper} {rest:List Oper} {o:Oper} {act:Act} {Q:Exit→Act→World→Prop} (hgd:o.guard=none) (l c:Operand)
    (ho:o.op=Op.makeSlice 68 l c) {n:Nat} (hl:act.eval l=ν (n:Int)) (hc:act.eval c=ν (n:Int)) (hn:n≤1000000)
    (h:∀ w',BG w' w.heap.size (some ⟨w.heap.size,0,none⟩) n (List.replicate n zPt)→Below w.heap.size w w'→wpList Tryz.prog ops Q rest (act.put o.dst (.slice (some ⟨w.heap.size,0,none⟩) n n)) w') :
    wpList Tryz.prog ops Q (o::rest) act w:=by
  have hinfo:(Tryz.prog.info? 127).map (fun i=>(i.zero,i.size,i.bytes))=some (some (Value.agg (ptC zPt).toArray),2,24):=κ
  obtain ⟨i,h0,h1,h2,h3⟩:=info_parts hinfo
  refine wpList_make_full w hgd l c _ ho w.heap.size 127 i _ 2 υ68 h0 h1 h2 .i64 .i64 _ _ n hl hc rfl rfl (by rw [h3];omega) (by unfold maxLen;omega) (Nat.le_refl _) ?_
  intro w' hown hgrow
  refine h w' ?_ ((Below.refl _ w).grown hgrow (Nat.le_refl _) (fun k hk=>by cases hk))
  show Own _ _ _ _ _ (List.replicate n zPt).length _ _
  rw [List.length_replicate,Ya]
  exact hown
structure DecS (w W:World) (Bb Ba Bs Bt:Nat) (a:Option Addr) (c:Nat) (xs:List UInt8) (s:DS):Prop where
  d:DIn W Bb Ba Bs a c xs s
  t:Blk W Bt 193 [Nr Bs Bb Ba]
  b:Below w.heap.size w W
  ha:w.heap.size≤Ba
  hs:w.heap.size≤Bs
theorem DecS.row {w W:World} {Bb Ba Bs Bt:Nat} {a:Option Addr} {c:Nat} {xs:List UInt8} {s:DS} (h:DecS w W Bb Ba Bs Bt a c xs s) (r0:Bp w a c xs):∀ W',Turns (fun k=>k=Ba∨k=Bs) W W'→Bp W' a c xs:=fun W' t=>
  r0.mono (h.b.trans (t.below h.b.size (fun k hk=>hk.elim (fun e=>e ▸ h.ha) (fun e=>e ▸ h.hs))))
theorem DecS.turns {w W W':World} {Bb Ba Bs Bt:Nat} {a:Option Addr} {c:Nat} {xs:List UInt8} {s s2:DS} (h:DecS w W Bb Ba Bs Bt a c xs s) (d2:DIn W' Bb Ba Bs a c xs s2) (t:Turns (fun k=>k=Ba∨k=Bs) W W'):DecS w W' Bb Ba Bs Bt a c xs s2:=
  ⟨d2,t.blk h.t (fun q=>q.elim (Dr h.t h.d.p (by decide)) (Dr h.t h.d.f (by decide))),h.b.trans (t.below h.b.size (fun k hk=>hk.elim (fun e=>e ▸ h.ha) (fun e=>e ▸ h.hs))),h.ha,h.hs⟩
theorem DecS.mono {w W W':World} {Bb Ba Bs Bt:Nat} {a:Option Addr} {c:Nat} {xs:List UInt8} {s:DS} (h:DecS w W Bb Ba Bs Bt a c xs s) (b:Below W.heap.size W W'):DecS w W' Bb Ba Bs Bt a c xs s:=
  ⟨h.d.mono b,h.t.mono b,Ae h.b b,h.ha,h.hs⟩
theorem DecS.grown {w W W':World} {Bb Ba Bs Bt g:Nat} {a:Option Addr} {c:Nat} {xs:List UInt8} {s:DS} (h:DecS w W Bb Ba Bs Bt a c xs s) {L:List Value} (hb:Blk W g 127 L) (G:W.grownBy W' (some g)) (hg:w.heap.size≤g):DecS w W' Bb Ba Bs Bt a c xs s:=
  ⟨⟨h.d.b.grownS G (Dr h.d.b hb (by decide)),h.d.p.grownS G (Dr h.d.p hb (by decide)),h.d.f.grownS G (Dr h.d.f hb (by decide)),h.d.at_⟩,h.t.grownS G (Dr h.t hb (by decide)),AH h.b G hg h.b.size,h.ha,h.hs⟩
theorem DecS.number {w W:World} {Bb Ba Bs Bt:Nat} {a:Option Addr} {c:Nat} {xs:List UInt8} {s:DS} (h:DecS w W Bb Ba Bs Bt a c xs s) (r0:Bp w a c xs) (hl:xs.length≤1000000) (n:Nat) (hn:n≤8) :
    Calls Tryz.prog 125 #[ν (n:Int),π Bt] W fun e w'=>∃ v,e=.returned v∧v=ν ((Br xs s n).1:Int)∧DecS w w' Bb Ba Bs Bt a c xs (Br xs s n).2∧Turns (fun k=>k=Ba∨k=Bs) W w':=
  (Ti h.d h.t (h.row r0) hl n hn).mono fun e w' q=>by
    obtain ⟨v,q1,q2,q3,q4⟩:=q
    exact ⟨v,q1,q2,h.turns q3 q4,q4⟩
theorem DecS.take {w W:World} {Bb Ba Bs Bt:Nat} {a:Option Addr} {c:Nat} {xs:List UInt8} {s:DS} (h:DecS w W Bb Ba Bs Bt a c xs s) (r0:Bp w a c xs) (hl:xs.length≤1000000) (n:Nat) (hn:n≤1000000) :
    Calls Tryz.prog 124 #[ν (n:Int),π Bs,π Bb,π Ba] W fun e w'=>∃ v,e=.returned v∧v=Aq (Bu xs s n).1∧DecS w w' Bb Ba Bs Bt a c xs (Bu xs s n).2∧Turns (fun k=>k=Ba∨k=Bs) W w':=
  (OE h.d (h.row r0) hl n hn).mono fun e w' q=>by
    obtain ⟨v,q1,q2,q3,q4⟩:=q
    exact ⟨v,q1,q2,h.turns q3 q4,q4⟩
theorem Tp {w w':World} {B g1 g2:Nat} {e t1 t2:TypeId} {sz:Nat} {a:Option Addr} {n c:Nat} {cs L1 L2:List Value} (h:Own w B e sz a n c cs) (hb1:Blk w g1 t1 L1) (hb2:Blk w g2 t2 L2) (n1:e≠t1) (n2:e≠t2) (t:Turns (fun k=>k=g1∨k=g2) w w'):Own w' B e sz a n c cs:=by
  refine ⟨h.1,?_⟩
  rcases h.2 with hn | ⟨b,cap,cur,hv,hB,hh,rest⟩
  · exact .inl hn
  · refine .inr ⟨b,cap,cur,hv,hB,(t.block b (Array.getElem?_eq_some_iff.1 hh).1 (fun q=>?_)).trans hh,rest⟩
    rcases q with q | q
    · subst q
      unfold Blk at hb1
      rw [hb1] at hh
      simp at hh
      exact n1 hh.2.symm
    · subst q
      unfold Blk at hb2
      rw [hb2] at hh
      simp at hh
      exact n2 hh.2.symm
theorem DecS.own {w W W':World} {Bb Ba Bs Bt:Nat} {a:Option Addr} {c:Nat} {xs:List UInt8} {s:DS} (h:DecS w W Bb Ba Bs Bt a c xs s) {B:Nat} {la:Option Addr} {lc:Nat} {L:List PtM} (o:BG W B la lc L) (t:Turns (fun k=>k=Ba∨k=Bs) W W'):BG W' B la lc L:=
  Tp o h.d.p h.d.f (by decide) (by decide) t
theorem QR {w:World} {B g c:Nat} {L:List PtM} {j:Nat} (o:BG w B (some ⟨g,0,none⟩) c L) (hj:j<L.length) (p:PtM) :
    ∃ K,Blk w g 127 K∧j*2+2≤K.length∧B≤g∧∀ w',Blk w' g 127 (splice K (j*2) (ptC p))→BG w' B (some ⟨g,0,none⟩) c (L.set j p):=by
  obtain ⟨K,hb,hK,hB,hs⟩:=MI o
  refine ⟨K,hb,ω,hB,fun w' hb'=>?_⟩
  have:=hs w' (j*2) (ptC p) (by rw [JW];omega) hb'
  unfold BG
  rw [List.length_set,Mm ptC 2 JW L j p hj]
  exact this
end
section
theorem IH (xs:List UInt8) (s:DS) (n:Nat):(Bu xs s n).1.length≤n:=by
  unfold Bu;split
  · exact Nat.zero_le _
  · show ((xs.drop s.at_).take n).length≤n;rw [List.length_take];omega
theorem Acq (x y:Operand) (v u:Int) (w:World) {b:Bool} (h:(v != u)=b):(do eqGuard .neq 3 x y (ν v) (ν u);binOp .neq 3 (ν v) (ν u):Sem Value).run Tryz.prog w=.ok (.bool b) w:=by
  have u3:=υ3
  have a3:=Tryz.isAgg3
  have z3:=Tryz.sizeOf3
  subst h
  go_simp
theorem Abc (x y:Operand) (s:List UInt8) (w:World) {b:Bool} (h:(!decide (s=[]))=b):(do eqGuard .neq 9 x y (Aq s) (.string ⟨#[]⟩);binOp .neq 9 (Aq s) (.string ⟨#[]⟩):Sem Value).run Tryz.prog w=.ok (.bool b) w:=by
  have u3:=υ9
  have a3:=Tryz.isAgg9
  have z3:=Tryz.sizeOf9
  have e:((bsB s).toList == (⟨#[]⟩:ByteArray).toList)=decide (s=[]):=by
    rw [ByteArray.toList_eq,ByteArray.toList_eq,Gj]
    by_cases q:s=[]<;>simp [q]
  subst h
  unfold Aq
  go_simp
  cases hq:decide (s=[])<;>simp_all [bne]
theorem Jy (n:Int) (t:List UInt8) (w:World):(Instr.build 127 #[(0,ν n),(1,Aq t)]).run Tryz.prog w=.ok (ptV ⟨n,t⟩) w:=by
  unfold Aq ptV ptC
  go_simp
  rfl
theorem PC {P:Program} {fn:Func} {c d e:Nat} (h:fn.results=#[.tmp c,.tmp d,.tmp e]) {tmps:Array Value} {w:World} {v u x:Value} (hc:tmps[c]? = some v) (hd:tmps[d]? = some u) (he:tmps[e]? = some x):(results fn tmps).run P w=.ok (.tuple #[v,u,x]) w:=by
  simp [results,h,hc,hd,he]
def Uc:Value:=.nilFunc
theorem TB {o:Oper} (ho:o.op=.alloc 193) (ρ:Operand→Value) (w:World):(execOp ρ o).run Tryz.prog w=.ok (.value (π w.heap.size)) (w.alloc (.cells #[Uc] 193)):=by
  unfold execOp;rw [ho];rfl
theorem TC {o:Oper} (ho:o.op=.alloc 3) (ρ:Operand→Value) (w:World):(execOp ρ o).run Tryz.prog w=.ok (.value (π w.heap.size)) (w.alloc (.cells #[ν 0] 3)):=by
  unfold execOp;rw [ho];rfl
theorem TA {o:Oper} (ho:o.op=.alloc 4) (ρ:Operand→Value) (w:World):(execOp ρ o).run Tryz.prog w=.ok (.value (π w.heap.size)) (w.alloc (.cells #[.bool false] 4)):=by
  unfold execOp;rw [ho];rfl
theorem Acc {w:World} {g off:Nat} {u:Value} (h:w.cell? ⟨g,off,none⟩=some u) (hz:w.frozen? ⟨g,off,none⟩=false) (f:Fn) (x y:Array Value):(Instr.storeAt 193 (.pointer (some ⟨g,off,none⟩)) (.func f x y)).run Tryz.prog w=.ok () (w.setCell ⟨g,off,none⟩ (.func f x y)):=by
  have u3:=υ193
  have a3:=Tryz.isAgg193
  have z3:=Tryz.sizeOf193
  go_simp
theorem Zq {o:Oper} {x:Operand} (ho:o.op=.box 74 x) {ρ:Operand→Value} {a:Option Addr} {n c:Nat} (hx:ρ x=.slice a n c) (w:World):(execOp ρ o).run Tryz.prog w=.ok (.value (π w.heap.size)) (w.alloc (.cells #[.slice a n c] 74)):=by
  unfold execOp;rw [ho];simp only [hx];rfl
theorem ZS {ops:Array Oper} {Q:Exit→Act→World→Prop} {rest:List Oper} {o:Oper} {a:Act} {w:World} {N:Nat} {l:List (Nat×Value)} (h:Kn N l a) (hw:o.guard=none) {d:Nat} (hd:o.dst=some d) (hdN:d<N) (hf:∀ x∈l,x.1≠d) {x:Operand} (ho:o.op=.box 74 x) (ad:Option Addr) (n c:Nat) (hx:a.eval x=.slice ad n c)
    (k:∀ a' w',Kn N ((d,π w.heap.size)::l) a'→Blk w' w.heap.size 74 [.slice ad n c]→Below w.heap.size w w'→w'.heap.size=w.heap.size+1→wpList Tryz.prog ops Q rest a' w'):wpList Tryz.prog ops Q (o::rest) a w:=
  Ak h (Aa hw) hd hdN hf _ (Zq ho hx w) fun a' h'=>k a' _ h' (AL rfl _ _) (Cq _ _) (by simp)
theorem QK {P:Program} {Q:Exit→Act→World→Prop} {oi:Oper} {a:Act} {w:World} {N:Nat} {l:List (Nat×Value)} {K:Act→World→Prop} (h:Kn N l a) {d:Nat} (hd:oi.dst=some d) (hdN:d<N) (hf:∀ x∈l,x.1≠d)
    {fn:FuncId} (hcf:∀ args,(callFunc fn args).run P w=.ok (.enter fn args) w) {y:Operand} {xs:Array Operand} {ts:Array TypeId} (p:oi.op=.call { callee:=.value y,args:=xs,argTypes:=ts }) (vs caps:Array Value) (hy:a.eval y=.func (.func fn) #[] caps) (hx:xs.map a.eval=vs)
    {R:Value→World→Prop} (HC:Calls P fn (vs++caps) w fun e w'=>∃ v,e=.returned v∧R v w')
    (k:∀ a' v w',R v w'→Kn N ((d,v)::l) a'→K a' w'):Oper.wp P oi a w K Q:=by
  have hrun:(execOp a.eval oi).run P w=.ok (.enter fn (vs++caps)) w:=by
    unfold execOp;rw [p]
    simp [resolve,invoke,Deferred.ofValue,hx,hy,hcf]
  unfold Oper.wp
  rw [hrun,Oper.upon_enter]
  refine HC.mono ?_
  rintro e w' ⟨v,rfl,hv⟩
  simp only
  rw [hd]
  exact k _ v w' hv (h.put hdN hf v)
theorem PD {w W:World} {xs:List UInt8} {act:Act} {la:Option Addr} {lc:Nat} {L:List PtM} {n E:Int} (hd:act.defers=[]) (h2:act.tmps[2]? = some (.slice la L.length lc)) (h3:act.tmps[3]? = some (ν n)) (h4:act.tmps[4]? = some (ν E)) (hdec:Ci xs=(L,n,E)) (ho:BG W w.heap.size la lc L) (hb:Below w.heap.size w W) :
    bodyPost Tryz.prog Tryz.f91 (fun e w'=>∃ v,e=.returned v∧∃ la lc,v=.tuple #[.slice la (Ci xs).1.length lc,ν (Ci xs).2.1,ν (Ci xs).2.2]∧BG w' w.heap.size la lc (Ci xs).1∧Below w.heap.size w w') .ret act W:=by
  refine bodyPost_ret (PC rfl h2 h3 h4) hd ?_
  rw [hdec]
  exact ⟨_,rfl,la,lc,rfl,ho,hb⟩
theorem So {w:World} {a:Option Addr} {c:Nat} {xs:List UInt8} (r0:Bp w a c xs) (hl:xs.length≤1000000) :
    Calls Tryz.prog 91 #[.slice a xs.length c] w fun e w'=>∃ v,e=.returned v∧∃ la lc,v=.tuple #[.slice la (Ci xs).1.length lc,ν (Ci xs).2.1,ν (Ci xs).2.2]∧BG w' w.heap.size la lc (Ci xs).1∧Below w.heap.size w w':=by
  have HR0:=hid r0
  clear r0
  obtain ⟨s0,hs0⟩:∃ s,s=(⟨0,false⟩:DS):=⟨_,rfl⟩
  have HS0:=hid hs0
  clear hs0
  go_enter Tryz.func91,Tryz.ntmps91
  iterate 3 go_step
  refine AW (N:=69) (l:=[(0,.slice a xs.length c)]) ⟨rfl,(by intro x hx;simp only [List.mem_cons,List.not_mem_nil,or_false] at hx;rcases hx with rfl<;>rfl),rfl⟩ fun a2 h1=>?_
  refine ZS h1 rfl rfl (by decide) (fr rfl) rfl a xs.length c (h1.ev 0 rfl) fun a1b w1 h1b k1 b1 s1=>?_
  refine mv h1b rfl fun _ h3=>?_
  refine mv h3 rfl fun _ h5=>?_
  refine mv h5 rfl fun _ h7=>?_
  iterate 5 go_step
  refine wv h7 rfl rfl rfl rfl (π w1.heap.size) (TC rfl _ _) fun a10 h9=>?_
  refine wv h9 rfl rfl rfl rfl (π ((w1.alloc (.cells #[ν 0] 3)).heap.size)) (TA rfl _ _) fun a12 h11=>?_
  obtain ⟨Bb,hBb⟩:∃ x,x=w.heap.size:=⟨_,rfl⟩
  obtain ⟨Ba,hBa⟩:∃ x,x=w1.heap.size:=⟨_,rfl⟩
  obtain ⟨w2,hw2⟩:∃ x,x=w1.alloc (.cells #[ν 0] 3):=⟨_,rfl⟩
  obtain ⟨Bs,hBs⟩:∃ x,x=w2.heap.size:=⟨_,rfl⟩
  obtain ⟨w3,hw3⟩:∃ x,x=w2.alloc (.cells #[.bool false] 4):=⟨_,rfl⟩
  have k2:Blk w2 Ba 3 [ν 0]:=by rw [hw2,hBa];exact AL rfl _ _
  have b2:Below w1.heap.size w1 w2:=by rw [hw2];exact Cq _ _
  have k3:Blk w3 Bs 4 [.bool false]:=by rw [hw3,hBs];exact AL rfl _ _
  have b3:Below w2.heap.size w2 w3:=by rw [hw3];exact Cq _ _
  have D3:DIn w3 Bb Ba Bs a c xs ⟨0,false⟩:=⟨by rw [hBb];exact (k1.mono b2).mono b3,k2.mono b3,k3,Nat.zero_le _⟩
  have B3:Below w.heap.size w w3:=Ae (Ae b1 b2) b3
  have hA:w.heap.size≤Ba:=by rw [hBa];exact b1.size
  have hS:w.heap.size≤Bs:=by rw [hBs];exact Nat.le_trans b1.size b2.size
  rw [← hBb,← hw2,← hBa,← hBs] at h11;rw [← hw2,← hw3]
  clear hw2 hw3 hBa hBs k1 b1 s1 k2 b2 k3 b3
  obtain ⟨w4,hww4⟩:∃ x,x=w3.setCell ⟨Ba,0,none⟩ (ν 0):=⟨_,rfl⟩
  have D4:DIn w4 Bb Ba Bs a c xs ⟨0,false⟩:=by rw [hww4];exact D3.setA 0 (Nat.zero_le _)
  have B4:Below w.heap.size w w4:=by rw [hww4];exact B3.setCell hA _
  refine DG h11 (wn rfl) rfl (w':=w4) (by rw [hww4];unfold execOp;simp only [h11.ev 5 rfl];exact Gf (UW (D3.p.cell (i:=0) (by simp)) (D3.p.frozen 0) _)) fun a14 h13=>?_
  clear hww4 D3 B3
  obtain ⟨w5,hww5⟩:∃ x,x=w4.setCell ⟨Bs,0,none⟩ (.bool false):=⟨_,rfl⟩
  have D5:DIn w5 Bb Ba Bs a c xs ⟨0,false⟩:=by rw [hww5];exact D4.setS false
  have B5:Below w.heap.size w w5:=by rw [hww5];exact B4.setCell hS _
  refine DG h13 (wn rfl) rfl (w':=w5) (by rw [hww5];unfold execOp;simp only [h13.ev 6 rfl];exact Gf (LK (D4.f.cell (i:=0) (by simp)) (D4.f.frozen 0) _)) fun a16 h15=>?_
  clear hww5 D4 B4
  iterate 5 go_step
  refine wv h15 rfl rfl rfl rfl (.func (.func 124) #[] #[π Bs,π Bb,π Ba]) (by unfold execOp;simp only [List.map_toArray,List.map_cons,List.map_nil,h15.ev 6 rfl,h15.ev 1 rfl,h15.ev 5 rfl];rfl) fun a18 h17=>?_
  refine wv h17 rfl rfl rfl rfl (π w5.heap.size) (TB rfl _ _) fun a20 h19=>?_
  obtain ⟨Bt,hBt⟩:∃ x,x=w5.heap.size:=⟨_,rfl⟩
  obtain ⟨w6,hw6⟩:∃ x,x=w5.alloc (.cells #[Uc] 193):=⟨_,rfl⟩
  have k6:Blk w6 Bt 193 [Uc]:=by rw [hw6,hBt];exact AL rfl _ _
  have b6:Below w5.heap.size w5 w6:=by rw [hw6];exact Cq _ _
  have D6:=D5.mono b6;have B6:=Ae B5 b6
  have hT:w.heap.size≤Bt:=by rw [hBt];exact B5.size
  rw [← hBt] at h19;rw [← hw6]
  clear hw6 hBt D5 B5 b6
  obtain ⟨w7,hw7⟩:∃ x,x=w6.setCell ⟨Bt,0,none⟩ (Nr Bs Bb Ba):=⟨_,rfl⟩
  have HD0:Hid (DecS w w7 Bb Ba Bs Bt a c xs s0):=hid (by rw [hw7,HS0.out];have t:=GW w6 Bt 0 (Nr Bs Bb Ba);exact ⟨⟨t.blk D6.b (Dr D6.b k6 (by decide)),t.blk D6.p (Dr D6.p k6 (by decide)),t.blk D6.f (Dr D6.f k6 (by decide)),D6.at_⟩,Blk.set k6 0 _,B6.setCell hT _,hA,hS⟩)
  refine DG h19 (wn rfl) rfl (w':=w7) (by rw [hw7];unfold execOp;simp only [h19.ev 7 rfl,h19.ev 17 rfl];exact Gf (Acc (k6.cell (i:=0) (by simp)) (k6.frozen 0) _ _ _)) fun a22 h21=>?_
  clear hw7 k6 D6 B6
  refine h21.sk [7,6,5,4,3,2,1,0] rfl fun h23=>?_
  iterate 5 go_step
  refine wv h23 rfl rfl rfl rfl (.func (.func 125) #[] #[π Bt]) (by unfold execOp;simp only [List.map_toArray,List.map_cons,List.map_nil,h23.ev 7 rfl];rfl) fun a25 h24=>?_
  refine mv h24 rfl fun _ h26=>?_
  refine h26.sk [8,7,6,5,4,3,2,1,0] rfl fun h28=>?_
  iterate 5 go_step
  refine mv h28 rfl fun _ h29=>?_
  refine Fk h29 (wn rfl) rfl (by decide) (fr rfl) (fun args=>cF Tryz.func125 (args:=args) (w:=_)) rfl #[ν 2] #[π Bt] (h29.ev 19 rfl) (by simp only [List.map_toArray,List.map_cons,List.map_nil];rfl) (R:=fun v w'=>v=ν ((Br xs s0 2).1:Int)∧DecS w w' Bb Ba Bs Bt a c xs (Br xs s0 2).2∧Turns (fun k=>k=Ba∨k=Bs) w7 w') (HD0.out.number HR0.out hl 2 (by decide)) fun a32 vx1 wx1 rx1 h31=>?_
  obtain ⟨rfl,q1,q2⟩:=rx1
  obtain ⟨x1,hx1⟩:∃ x,x=(Br xs s0 2).1:=⟨_,rfl⟩
  obtain ⟨s1,hs1⟩:∃ x,x=(Br xs s0 2).2:=⟨_,rfl⟩
  have bd1:x1≤9223372036854775807:=by rw [hx1];exact JR _ _ _
  rw [← hx1] at h31;rw [← hs1] at q1
  have HX1:=hid hx1;have HS1:=hid hs1;have HD1:=hid q1;clear q1 q2 hx1 hs1
  refine mv h31 rfl fun _ h33=>?_
  refine h33.sk [9,8,7,6,5,4,3,2,1,0] rfl fun h35=>?_
  iterate 4 go_step
  by_cases hb6:64<x1
  · have hbig:decide ((64:Int)<(x1:Int))=true:=decide_eq_true ω
    iterate 2 go_step
    refine mv h35 rfl fun _ h36=>?_
    refine wv h36 rfl rfl rfl rfl (.bool true) (by unfold execOp;simp only [h36.ev 21 rfl];exact Ac (FI _ _ _ _ _ hbig)) fun a39 h38=>?_
    refine h38.sk [22,9,8,7,6,5,4,3,2,1,0] rfl fun h40=>?_
    iterate 3 go_step
    refine wp_cond (t:=true) (h40.ev 22 rfl) ?_
    simp only [if_true]
    refine h40.sk [9,8,7,6,5,4,3,2,1,0] rfl fun h41=>?_
    iterate 2 go_step
    refine h41.sk [9,8,7,6,5,4,3,1,0] rfl fun h42=>?_
    refine mv h42 rfl fun _ h43=>?_
    refine h43.sk [2,9,8,7,6,5,4,1,0] rfl fun h45=>?_
    refine mv h45 rfl fun _ h46=>?_
    refine h46.sk [3,2,9,8,7,6,5,1,0] rfl fun h48=>?_
    refine mv h48 rfl fun _ h49=>?_
    iterate 4 go_step
    simp only [Exit.then,Exit.inBlock]
    have hde:Ci xs=([],0,2):=by unfold Ci;rw [← HS0.out,← HX1.out,if_pos hb6]
    exact PD (L:=[]) (la:=none) (lc:=0) h49.defs (h49.known (2,.slice none 0 0) (by simp)) (h49.known (3,ν 0) (by simp)) (h49.known (4,ν 2) (by simp)) hde (Own.nil _ _ _ _) HD1.out.b
  · have hbig:decide ((64:Int)<(x1:Int))=false:=decide_eq_false ω
    iterate 2 go_step
    refine mv h35 rfl fun _ h51=>?_
    refine wv h51 rfl rfl rfl rfl (.bool false) (by unfold execOp;simp only [h51.ev 21 rfl];exact Ac (FI _ _ _ _ _ hbig)) fun a54 h53=>?_
    refine h53.sk [22,9,8,7,6,5,4,3,2,1,0] rfl fun h55=>?_
    iterate 3 go_step
    refine wp_cond (t:=false) (h55.ev 22 rfl) ?_
    simp only [Bool.false_eq_true,if_false]
    refine h55.sk [9,8,7,6,5,4,3,2,1,0] rfl fun h56=>?_
    iterate 3 go_step
    have hdec:Ci xs=XV xs (DI xs x1 s1 []):=by unfold Ci;rw [← HS0.out,← HX1.out,← HS1.out,if_neg hb6]
    have HDEC:=hid hdec;clear hdec
    iterate 2 go_step
    refine mv h56 rfl fun _ h57=>?_
    refine TZ rfl (.tmp 23) (.tmp 23) rfl (n:=x1) (h57.ev 23 rfl) (h57.ev 23 rfl) (by omega) ?_
    intro w8 o8 b8
    obtain ⟨lg,hlg⟩:∃ x,x=wx1.heap.size:=⟨_,rfl⟩
    rw [← hlg] at o8;rw [← hlg]
    refine AW (h57.put (d:=24) (by decide) (fr rfl) (.slice (some ⟨lg,0,none⟩) x1 x1)) fun a60 h59=>?_
    have HD8:=hid (HD1.out.mono b8);have HOW8:Hid (BG w8 w.heap.size (some ⟨lg,0,none⟩) x1 (List.replicate x1 zPt)):=hid (Own.low o8 (by rw [hlg];exact HD1.out.b.size));clear o8 b8
    refine mv h59 rfl fun _ h61=>?_
    refine h61.sk [10,9,8,7,6,5,4,3,2,1,0] rfl fun h63=>?_
    iterate 6 go_step
    refine mv h63 rfl fun _ h64=>?_
    refine wv h64 rfl rfl rfl rfl (.int .i64 (x1:Int)) (Df rfl (h64.ev 25 rfl) _) fun a67 h66=>?_
    refine mv h66 rfl fun _ h68=>?_
    refine h68.sk [27,26,10,9,8,7,6,5,4,3,2,1,0] rfl fun h70=>?_
    iterate 4 go_step
    refine wp_loop (I:=fun a' w'=>∃ (j:Nat) (s:DS) (acc:List PtM),j≤x1∧Kn 69 [(27,.int .i64 (j:Int)),(26,.int .i64 (x1:Int)),(10,.slice (some ⟨lg,0,none⟩) x1 x1),(9,.int .i64 (x1:Int)),(8,.func (.func 125) #[] #[.pointer (some ⟨Bt,0,none⟩)]),(7,.pointer (some ⟨Bt,0,none⟩)),(6,.pointer (some ⟨Bs,0,none⟩)),(5,.pointer (some ⟨Ba,0,none⟩)),(4,.int .i64 0),(3,.int .i64 0),(2,.slice none 0 0),(1,.pointer (some ⟨Bb,0,none⟩)),(0,.slice a xs.length c)] a'∧DecS w w' Bb Ba Bs Bt a c xs s∧BG w' w.heap.size (some ⟨lg,0,none⟩) x1 (acc++List.replicate (x1-j) zPt)∧acc.length=j∧DI xs x1 s1 []=DI xs (x1-j) s acc) (μ:=fun a' _=>x1-(intOf (a'.eval (.tmp 27))).toNat) ⟨0,s1,[],Nat.zero_le _,h70,HD8.out,HOW8.out,rfl,rfl⟩ ?_
    clear HD8 HOW8 h70
    rintro aL wL ⟨j,s,acc,hj,hK,hD,hO,hal,hg⟩
    have HD:=hid hD;have HO:=hid hO;have HG:=hid hg;clear hD hO hg
    by_cases hlt:j<x1
    · have hd0:decide ((j:Int)<(x1:Int))=true:=decide_eq_true (by omega)
      have HAL:Hid ((acc++List.replicate (x1-j) zPt).length=x1):=hid (by rw [List.length_append,List.length_replicate];omega)
      have HG1:Hid (DI xs x1 s1 []=(if 256<(Br xs (Br xs s 4).2 2).1 then none else DI xs (x1-(j+1)) (Bu xs (Br xs (Br xs s 4).2 2).2 (Br xs (Br xs s 4).2 2).1).2 (acc++[⟨((Br xs s 4).1:Int),(Bu xs (Br xs (Br xs s 4).2 2).2 (Br xs (Br xs s 4).2 2).1).1⟩]))):=hid (by rw [HG.out,show x1-j=(x1-(j+1))+1 by omega];rfl)
      iterate 3 go_step
      refine wv hK rfl rfl rfl rfl (.bool true) (by unfold execOp;simp only [hK.ev 27 rfl,hK.ev 26 rfl];exact Ac (IL _ _ _ _ _ hd0)) fun a72 h71=>?_
      iterate 4 go_step
      refine wp_cond (t:=true) (h71.ev 28 rfl) ?_
      simp only [if_true]
      refine h71.sk [27,26,10,9,8,7,6,5,4,3,2,1,0] rfl fun h73=>?_
      iterate 7 go_step
      refine mv h73 rfl fun _ h74=>?_
      refine mv h74 rfl fun _ h76=>?_
      refine h76.sk [11,27,26,10,9,8,7,6,5,4,3,2,1,0] rfl fun h78=>?_
      iterate 5 go_step
      refine mv h78 rfl fun _ h79=>?_
      refine Fk h79 (Aa rfl) rfl (by decide) (fr rfl) (fun args=>cF Tryz.func125 (args:=args) (w:=_)) rfl #[.int .i64 4] #[.pointer (some ⟨Bt,0,none⟩)] (h79.ev 30 rfl) (by simp only [List.map_toArray,List.map_cons,List.map_nil];rfl) (R:=fun v w'=>v=.int .i64 ((Br xs s 4).1:Int)∧DecS w w' Bb Ba Bs Bt a c xs (Br xs s 4).2∧Turns (fun k=>k=Ba∨k=Bs) wL w') (HD.out.number HR0.out hl 4 (by decide)) fun a82 vx2 wx2 rx2 h81=>?_
      obtain ⟨rfl,q1,q2⟩:=rx2
      obtain ⟨x2,hx2⟩:∃ x,x=(Br xs s 4).1:=⟨_,rfl⟩
      obtain ⟨s2,hs2⟩:∃ x,x=(Br xs s 4).2:=⟨_,rfl⟩
      have bd2:x2≤9223372036854775807:=by rw [hx2];exact JR _ _ _
      rw [← hx2] at h81;rw [← hs2] at q1
      have HOW2:=hid (HD.out.own HO.out q2)
      have HX2:=hid hx2;have HS2:=hid hs2;have HD2:=hid q1;clear q1 q2 hx2 hs2
      refine mv h81 rfl fun _ h83=>?_
      refine Fk h83 (Aa rfl) rfl (by decide) (fr rfl) (fun args=>cF Tryz.func125 (args:=args) (w:=_)) rfl #[.int .i64 2] #[.pointer (some ⟨Bt,0,none⟩)] (h83.ev 32 rfl) (by simp only [List.map_toArray,List.map_cons,List.map_nil];rfl) (R:=fun v w'=>v=.int .i64 ((Br xs s2 2).1:Int)∧DecS w w' Bb Ba Bs Bt a c xs (Br xs s2 2).2∧Turns (fun k=>k=Ba∨k=Bs) wx2 w') (HD2.out.number HR0.out hl 2 (by decide)) fun a86 vx3 wx3 rx3 h85=>?_
      obtain ⟨rfl,q1,q2⟩:=rx3
      obtain ⟨x3,hx3⟩:∃ x,x=(Br xs s2 2).1:=⟨_,rfl⟩
      obtain ⟨s3,hs3⟩:∃ x,x=(Br xs s2 2).2:=⟨_,rfl⟩
      have bd3:x3≤9223372036854775807:=by rw [hx3];exact JR _ _ _
      rw [← hx3] at h85;rw [← hs3] at q1
      have HOW3:=hid (HD2.out.own HOW2.out q2)
      have HX3:=hid hx3;have HS3:=hid hs3;have HD3:=hid q1;clear q1 q2 hx3 hs3
      refine mv h85 rfl fun _ h87=>?_
      refine mv h87 rfl fun _ h89=>?_
      refine h89.sk [13,12,11,27,26,10,9,8,7,6,5,4,3,2,1,0] rfl fun h91=>?_
      iterate 4 go_step
      by_cases hl2:256<x3
      · have hlong:decide ((256:Int)<(x3:Int))=true:=decide_eq_true (by omega)
        iterate 2 go_step
        refine mv h91 rfl fun _ h92=>?_
        refine wv h92 rfl rfl rfl rfl (.bool true) (by unfold execOp;simp only [h92.ev 34 rfl];exact Ac (FI _ _ _ _ _ hlong)) fun a95 h94=>?_
        refine h94.sk [35,13,12,11,27,26,10,9,8,7,6,5,4,3,2,1,0] rfl fun h96=>?_
        iterate 3 go_step
        refine wp_cond (t:=true) (h96.ev 35 rfl) ?_
        simp only [if_true]
        refine h96.sk [13,12,11,27,26,10,9,8,7,6,5,4,3,2,1,0] rfl fun h97=>?_
        iterate 2 go_step
        refine h97.sk [13,12,11,27,26,10,9,8,7,6,5,4,3,1,0] rfl fun h98=>?_
        refine mv h98 rfl fun _ h99=>?_
        refine h99.sk [2,13,12,11,27,26,10,9,8,7,6,5,4,1,0] rfl fun h101=>?_
        refine mv h101 rfl fun _ h102=>?_
        refine h102.sk [3,2,13,12,11,27,26,10,9,8,7,6,5,1,0] rfl fun h104=>?_
        refine mv h104 rfl fun _ h105=>?_
        iterate 4 go_step
        simp only [Exit.then,Exit.inBlock]
        have hde:Ci xs=([],0,2):=by rw [HDEC.out,HG1.out,← HS2.out,← HX3.out,if_pos hl2];rfl
        exact PD (L:=[]) (la:=none) (lc:=0) h105.defs (h105.known (2,.slice none 0 0) (by simp)) (h105.known (3,.int .i64 0) (by simp)) (h105.known (4,.int .i64 2) (by simp)) hde (Own.nil _ _ _ _) HD3.out.b
      · have hlong:decide ((256:Int)<(x3:Int))=false:=decide_eq_false (by omega)
        iterate 2 go_step
        refine mv h91 rfl fun _ h107=>?_
        refine wv h107 rfl rfl rfl rfl (.bool false) (by unfold execOp;simp only [h107.ev 34 rfl];exact Ac (FI _ _ _ _ _ hlong)) fun a110 h109=>?_
        refine h109.sk [35,13,12,11,27,26,10,9,8,7,6,5,4,3,2,1,0] rfl fun h111=>?_
        iterate 3 go_step
        refine wp_cond (t:=false) (h111.ev 35 rfl) ?_
        simp only [Bool.false_eq_true,if_false]
        refine h111.sk [13,12,11,27,26,10,9,8,7,6,5,4,3,2,1,0] rfl fun h112=>?_
        iterate 4 go_step
        refine mv h112 rfl fun _ h113=>?_
        refine mv h113 rfl fun _ h115=>?_
        refine mv h115 rfl fun _ h117=>?_
        refine wv h117 rfl rfl rfl rfl (.func (.func 124) #[] #[.pointer (some ⟨Bs,0,none⟩),.pointer (some ⟨Bb,0,none⟩),.pointer (some ⟨Ba,0,none⟩)]) (by unfold execOp;simp only [h117.ev 7 rfl];exact Ac (Pn (by have z:=HD3.out.t.cell (i:=0) (by simp);exact z))) fun a120 h119=>?_
        refine mv h119 rfl fun _ h121=>?_
        refine Fk h121 (wn rfl) rfl (by decide) (fr rfl) (fun args=>cF Tryz.func124 (args:=args) (w:=_)) rfl #[ν (x3:Int)] #[π Bs,π Bb,π Ba] (h121.ev 39 rfl) (by simp only [List.map_toArray,List.map_cons,List.map_nil,h121.ev 40 rfl]) (R:=fun v w'=>v=Aq (Bu xs s3 x3).1∧DecS w w' Bb Ba Bs Bt a c xs (Bu xs s3 x3).2∧Turns (fun k=>k=Ba∨k=Bs) wx3 w') (HD3.out.take HR0.out hl x3 ω) fun a124 vx4 wx4 rx4 h123=>?_
        obtain ⟨rfl,q1,q2⟩:=rx4
        obtain ⟨x4,hx4⟩:∃ x,x=(Bu xs s3 x3).1:=⟨_,rfl⟩
        obtain ⟨s4,hs4⟩:∃ x,x=(Bu xs s3 x3).2:=⟨_,rfl⟩
        have bd4:x4.length≤x3:=by rw [hx4];exact IH _ _ _
        rw [← hx4] at h123;rw [← hs4] at q1
        have HOW4:=hid (HD3.out.own HOW3.out q2)
        have HX4:=hid hx4;have HS4:=hid hs4;have HD4:=hid q1;clear q1 q2 hx4 hs4
        refine wv h123 rfl rfl rfl rfl (ptV ⟨(x2:Int),x4⟩) (by unfold execOp;simp only [List.map_toArray,List.map_cons,List.map_nil,h123.ev 38 rfl,h123.ev 41 rfl];exact Ac (Jy _ _ _)) fun a126 h125=>?_
        refine wv h125 rfl rfl rfl rfl (.pointer (some ⟨lg,0+j*2,none⟩)) (by unfold execOp;simp only [h125.ev 36 rfl,h125.ev 37 rfl];exact Ac (ixP lg 0 x1 x1 j hlt _)) fun a128 h127=>?_
        obtain ⟨K,hk0,hKl,hlB,hset⟩:=QR (j:=j) HOW4.out (by rw [HAL.out];exact hlt) (⟨(x2:Int),x4⟩:PtM)
        refine FD h127 rfl rfl rfl lg (0+j*2) (h127.ev 43 rfl) (ptC (⟨(x2:Int),x4⟩:PtM)) (h127.ev 42 rfl) (by rw [Er];rfl) (FP _) hk0 (by show 0+j*2+2≤_;omega) fun a130 wq h129 kq gq=>?_
        rw [Nat.zero_add] at kq
        have HQ:=hid (hset wq kq);have HDQ:=hid (HD4.out.grown hk0 gq hlB);clear hset kq gq hk0
        refine h129.sk [13,12,11,27,26,10,9,8,7,6,5,4,3,2,1,0] rfl fun h131=>?_
        iterate 4 go_step
        refine wv h131 rfl rfl rfl rfl (.int .i64 ((j+1:Nat):Int)) (by unfold execOp;simp only [h131.ev 27 rfl];exact Ac (LN _ _ j (by omega) _)) fun a133 h132=>?_
        refine h132.sk [44,13,12,11,26,10,9,8,7,6,5,4,3,2,1,0] rfl fun h134=>?_
        refine mv h134 rfl fun _ h135=>?_
        refine h135.sk [27,13,12,11,26,10,9,8,7,6,5,4,3,2,1,0] rfl fun h137=>?_
        iterate 2 go_step
        refine ⟨⟨j+1,s4,acc++[⟨(x2:Int),x4⟩],by omega,h137.subs rfl,HDQ.out,?_,by rw [List.length_append,hal];rfl,?_⟩,?_⟩
        · have z:=HQ.out;have e:(acc++List.replicate (x1-j) zPt).set j ⟨(x2:Int),x4⟩=acc++[⟨(x2:Int),x4⟩]++List.replicate (x1-(j+1)) zPt:=by rw [show x1-j=(x1-(j+1))+1 by omega,List.replicate_succ,List.set_append_right _ _ (by omega),hal,Nat.sub_self,List.set_cons_zero,List.append_assoc];rfl
          rw [e] at z;exact z
        · rw [HG1.out,← HS2.out,← HX3.out,if_neg hl2,← HX2.out,← HS3.out,← HX4.out,← HS4.out]
        · rw [h137.ev 27 rfl,hK.ev 27 rfl];simp [intOf];omega
    · have hd0:decide ((j:Int)<(x1:Int))=false:=decide_eq_false (by omega)
      obtain rfl:j=x1:=by omega
      have hdec2:Ci xs=JA xs acc s:=by rw [HDEC.out,HG.out,Nat.sub_self];rfl
      have HOA:Hid (BG wL w.heap.size (some ⟨lg,0,none⟩) j acc):=hid (by have z:=HO.out;rw [Nat.sub_self,List.replicate_zero,List.append_nil] at z;exact z)
      have HDE:=hid hdec2;clear hdec2
      iterate 3 go_step
      refine wv hK rfl rfl rfl rfl (.bool false) (by unfold execOp;simp only [hK.ev 27 rfl,hK.ev 26 rfl];exact Ac (IL _ _ _ _ _ hd0)) fun a139 h138=>?_
      iterate 4 go_step
      refine wp_cond (t:=false) (h138.ev 28 rfl) ?_
      simp only [Bool.false_eq_true,if_false]
      refine h138.sk [27,26,10,9,8,7,6,5,4,3,2,1,0] rfl fun h140=>?_
      iterate 7 go_step
      refine wv h140 rfl rfl rfl rfl (.slice a xs.length c) (by unfold execOp;simp only [h140.ev 1 rfl];exact Ac (Pp (HD.out.d.b.cell (i:=0) (by simp)))) fun a142 h141=>?_
      refine wv h141 rfl rfl rfl rfl (.int .i64 (s.at_:Int)) (by unfold execOp;simp only [h141.ev 5 rfl];exact Ac (BN (HD.out.d.p.cell (i:=0) (by simp)))) fun a144 h143=>?_
      obtain ⟨hsl,hrow⟩:=Aey (HD.out.row HR0.out _ (Turns.refl _ _)) s.at_ HD.out.d.at_
      have htl:(xs.take s.at_).length=s.at_:=by rw [List.length_take];exact Nat.min_eq_left HD.out.d.at_
      refine wv h143 rfl rfl rfl rfl (.slice a s.at_ c) (by unfold execOp;simp only [Option.map_some,Option.map_none,h143.ev 45 rfl,h143.ev 46 rfl];exact Ac (hsl _)) fun a146 h145=>?_
      refine AN h145 (wn rfl) rfl (by decide) (fr rfl) (fun args=>cF Tryz.func70 (args:=args) (w:=_)) rfl #[.slice a s.at_ c] (by simp only [List.map_toArray,List.map_cons,List.map_nil,h145.ev 47 rfl]) (R:=fun v w'=>v=.int .u32 (CO (xs.take s.at_):Int)∧Below wL.heap.size wL w') ((by have z:=Ke a c (xs.take s.at_) wL hrow;rw [htl] at z;exact z.mono fun e w' q=>⟨_,q.1,rfl,q.2⟩)) fun a148 vc wc rc h147=>?_
      obtain ⟨rfl,bc⟩:=rc
      obtain ⟨cr,hcr⟩:∃ x,x=CO (xs.take s.at_):=⟨_,rfl⟩
      have hcl:cr<4294967296:=by rw [hcr];exact EA _
      rw [← hcr] at h147
      have HCR:=hid hcr;have HDC:=hid (HD.out.mono bc);have HOC:=hid (Own.mono HOA.out bc);clear hcr bc
      refine wv h147 rfl rfl rfl rfl (.int .i64 (cr:Int)) (by unfold execOp;simp only [h147.ev 48 rfl];exact Ac (Un cr hcl _)) fun a150 h149=>?_
      refine mv h149 rfl fun _ h151=>?_
      refine h151.sk [14,27,26,10,9,8,7,6,5,4,3,2,1,0] rfl fun h153=>?_
      iterate 5 go_step
      refine mv h153 rfl fun _ h154=>?_
      refine Fk h154 (Aa rfl) rfl (by decide) (fr rfl) (fun args=>cF Tryz.func125 (args:=args) (w:=_)) rfl #[.int .i64 4] #[.pointer (some ⟨Bt,0,none⟩)] (h154.ev 50 rfl) (by simp only [List.map_toArray,List.map_cons,List.map_nil];rfl) (R:=fun v w'=>v=.int .i64 ((Br xs s 4).1:Int)∧DecS w w' Bb Ba Bs Bt a c xs (Br xs s 4).2∧Turns (fun k=>k=Ba∨k=Bs) wc w') (HDC.out.number HR0.out hl 4 (by decide)) fun a157 vx5 wx5 rx5 h156=>?_
      obtain ⟨rfl,q1,q2⟩:=rx5
      obtain ⟨x5,hx5⟩:∃ x,x=(Br xs s 4).1:=⟨_,rfl⟩
      obtain ⟨s5,hs5⟩:∃ x,x=(Br xs s 4).2:=⟨_,rfl⟩
      have bd5:x5≤9223372036854775807:=by rw [hx5];exact JR _ _ _
      rw [← hx5] at h156;rw [← hs5] at q1
      have HOW5:=hid (HDC.out.own HOC.out q2)
      have HX5:=hid hx5;have HS5:=hid hs5;have HD5:=hid q1;clear q1 q2 hx5 hs5
      refine mv h156 rfl fun _ h158=>?_
      refine h158.sk [15,14,27,26,10,9,8,7,6,5,4,3,2,1,0] rfl fun h160=>?_
      iterate 3 go_step
      have hend:Ci xs=JA xs acc s:=HDE.out
      unfold JA at hend
      rw [← HS5.out,← HX5.out,← HCR.out] at hend
      have HE:=hid hend;clear hend
      go_step
      by_cases hsum:s5.no=false∧x5≠cr
      · have hno:=hsum.1
        have hne:((x5:Int) != (cr:Int))=true:=by have:=hsum.2;simp;omega
        iterate 2 go_step
        refine wv h160 rfl rfl rfl rfl (.bool false) (by unfold execOp;simp only [h160.ev 6 rfl];exact Ac (Es (by have z:=HD5.out.d.f.cell (i:=0) (by simp);rw [hno] at z;exact z))) fun a162 h161=>?_
        refine wv h161 rfl rfl rfl rfl (.bool true) (Fd rfl (h161.ev 52 rfl)) fun a164 h163=>?_
        refine mv h163 rfl fun _ h165=>?_
        refine Ak h165 (by rw [Ab (g:=2) (want:=true) (b:=true) rfl (h165.yields (prev:=54) rfl (by simp))];rfl) rfl (by decide) (fr rfl) (.int .i64 (x5:Int)) (by unfold execOp;simp only [h165.ev 15 rfl];rfl) fun a168 h167=>?_
        refine Ak h167 (by rw [Ab (g:=2) (want:=true) (b:=true) rfl (h167.yields (prev:=54) rfl (by simp))];rfl) rfl (by decide) (fr rfl) (.int .i64 (cr:Int)) (by unfold execOp;simp only [h167.ev 14 rfl];rfl) fun a170 h169=>?_
        refine Ak h169 (by rw [Ab (g:=2) (want:=true) (b:=true) rfl (h169.yields (prev:=54) rfl (by simp))];rfl) rfl (by decide) (fr rfl) (.bool true) (by unfold execOp;simp only [h169.ev 55 rfl,h169.ev 56 rfl];exact Ac (Acq _ _ _ _ _ hne)) fun a172 h171=>?_
        refine wv h171 rfl rfl rfl rfl (.bool true) (Bf rfl (h171.ev 54 rfl) (by rw [if_pos rfl];exact h171.ev 57 rfl)) fun a174 h173=>?_
        refine h173.sk [58,15,14,27,26,10,9,8,7,6,5,4,3,2,1,0] rfl fun h175=>?_
        iterate 3 go_step
        refine wp_cond (t:=true) (h175.ev 58 rfl) ?_
        simp only [if_true]
        refine h175.sk [15,14,27,26,10,9,8,7,6,5,4,3,2,1,0] rfl fun h176=>?_
        iterate 2 go_step
        refine h176.sk [15,14,27,26,10,9,8,7,6,5,4,3,1,0] rfl fun h177=>?_
        refine mv h177 rfl fun _ h178=>?_
        refine h178.sk [2,15,14,27,26,10,9,8,7,6,5,4,1,0] rfl fun h180=>?_
        refine mv h180 rfl fun _ h181=>?_
        refine h181.sk [3,2,15,14,27,26,10,9,8,7,6,5,1,0] rfl fun h183=>?_
        refine mv h183 rfl fun _ h184=>?_
        iterate 4 go_step
        simp only [Exit.then,Exit.inBlock]
        have hde:Ci xs=([],0,4):=by rw [HE.out,if_pos hsum]
        exact PD (L:=[]) (la:=none) (lc:=0) h184.defs (h184.known (2,.slice none 0 0) (by simp)) (h184.known (3,.int .i64 0) (by simp)) (h184.known (4,.int .i64 4) (by simp)) hde (Own.nil _ _ _ _) HD5.out.b
      · skip
        have HE1:=hid (HE.out.trans (if_neg hsum))
        cases hno:s5.no with
        | true=>
          iterate 2 go_step
          refine wv h160 rfl rfl rfl rfl (.bool true) (by unfold execOp;simp only [h160.ev 6 rfl];exact Ac (Es (by have z:=HD5.out.d.f.cell (i:=0) (by simp);rw [hno] at z;exact z))) fun a187 h186=>?_
          refine wv h186 rfl rfl rfl rfl (.bool false) (Fd rfl (h186.ev 52 rfl)) fun a189 h188=>?_
          refine mv h188 rfl fun _ h190=>?_
          refine AG h190 (by rw [Ab (g:=2) (want:=true) (b:=false) rfl (h190.yields (prev:=54) rfl (by simp))];rfl) rfl (by decide) (fr rfl) fun a193 h192=>?_
          refine AG h192 (by rw [Ab (g:=2) (want:=true) (b:=false) rfl (h192.yields (prev:=54) rfl (by simp))];rfl) rfl (by decide) (fr rfl) fun a195 h194=>?_
          refine AG h194 (by rw [Ab (g:=2) (want:=true) (b:=false) rfl (h194.yields (prev:=54) rfl (by simp))];rfl) rfl (by decide) (fr rfl) fun a197 h196=>?_
          refine wv h196 rfl rfl rfl rfl (.bool false) (Bf rfl (h196.ev 54 rfl) rfl) fun a199 h198=>?_
          refine h198.sk [58,15,14,27,26,10,9,8,7,6,5,4,3,2,1,0] rfl fun h200=>?_
          iterate 3 go_step
          refine wp_cond (t:=false) (h200.ev 58 rfl) ?_
          simp only [Bool.false_eq_true,if_false]
          refine h200.sk [15,14,27,26,10,9,8,7,6,5,4,3,2,1,0] rfl fun h201=>?_
          iterate 4 go_step
          have HDd:=hid (HD5.out.mono (Below.refl _ _).drew);have HOd:=hid (Own.mono HOW5.out (Below.refl _ _).drew)
          refine wp_region_held_drew (S:=fun w'=>Blk w' Bt 193 [Nr Bs Bb Ba]) (by kernel_rfl) HDd.out.t (fun hS20=>?_)
          refine Aj hS20 h201 0 rfl rfl (by decide) (fr rfl) (by kernel_rfl) (by kernel_rfl) (by kernel_rfl) (fun _ _ _ _ h=>h) (.func (.func 124) #[] #[.pointer (some ⟨Bs,0,none⟩),.pointer (some ⟨Bb,0,none⟩),.pointer (some ⟨Ba,0,none⟩)]) (Or.inl ⟨Eq.refl true,fun w1 hSw=>(by show (execOp _ (⟨_,.load 193 (.tmp 7),_,_,_,_⟩:Oper)).run _ _=_;exact (by unfold execOp;simp only [h201.ev 7 rfl];exact Ac (Pn (by have z:=hSw.cell (i:=0) (by simp);exact z))))⟩) fun a203 h202=>?_
          refine AE 1 rfl rfl (by kernel_rfl) fun K hK=>Ds (w':=wx5.drew) h202 rfl (by decide) (fr rfl) (.int .i64 (s5.at_:Int)) (by show (execOp _ (⟨_,.load 3 (.tmp 5),_,_,_,_⟩:Oper)).run _ _=_;exact (by unfold execOp;simp only [h202.ev 5 rfl];exact Ac (BN (HDd.out.d.p.cell (i:=0) (by simp))))) fun a205 h204=>hK _ _ hS20 fun hS21=>?_
          clear hK K
          refine AE 2 rfl rfl κ fun K hK=>DA h204 rfl (by decide) (fr rfl) (fun args=>cF Tryz.func89 (args:=args) (w:=_)) rfl #[ν (s5.at_:Int)] (by simp only [List.map_toArray,List.map_cons,List.map_nil,h204.ev 60 rfl]) (R:=fun v w'=>v=ν (Bz s5.at_:Int)∧wx5.drew=w') ((Id s5.at_ (by have:=HDd.out.d.at_;omega) wx5.drew).mono fun e w' q=>⟨_,q.1,rfl,q.2⟩) fun a207 vp wp rp h206=>hK _ _ (by rw [← rp.2];exact hS21) fun hS22=>?_
          clear hK K
          obtain ⟨rfl,rfl⟩:=rp
          refine AE 3 rfl rfl κ fun K hK=>QK h206 rfl (by decide) (fr rfl) (fun args=>cF Tryz.func124 (args:=args) (w:=_)) rfl #[ν (Bz s5.at_:Int)] #[π Bs,π Bb,π Ba] (h206.ev 59 rfl) (by simp only [List.map_toArray,List.map_cons,List.map_nil,h206.ev 61 rfl]) (R:=fun v w'=>v=Aq (Bu xs s5 (Bz s5.at_)).1∧DecS w w' Bb Ba Bs Bt a c xs (Bu xs s5 (Bz s5.at_)).2∧Turns (fun k=>k=Ba∨k=Bs) wx5.drew w') (HDd.out.take HR0.out hl (Bz s5.at_) (by unfold Bz;omega)) fun a209 vx6 wx6 rx6 h208=>hK _ _ rx6.2.1.t fun hS23=>?_
          clear hK K
          obtain ⟨rfl,q1,q2⟩:=rx6
          obtain ⟨x6,hx6⟩:∃ x,x=(Bu xs s5 (Bz s5.at_)).1:=⟨_,rfl⟩
          obtain ⟨s6,hs6⟩:∃ x,x=(Bu xs s5 (Bz s5.at_)).2:=⟨_,rfl⟩
          have bd6:x6.length≤(Bz s5.at_):=by rw [hx6];exact IH _ _ _
          rw [← hx6] at h208;rw [← hs6] at q1
          have HOW6:=hid (HDd.out.own HOd.out q2)
          have HX6:=hid hx6;have HS6:=hid hs6;have HD6:=hid q1;clear q1 q2 hx6 hs6
          refine Aj hS23 h208 4 rfl rfl (by decide) (fr rfl) κ κ κ (fun _ _ _ _ h=>h) (Aq x6) (Or.inl ⟨Eq.refl true,fun w1 _=>(by show (execOp _ (⟨_,.assign (.tmp 62),_,_,_,_⟩:Oper)).run _ _=_;exact (by unfold execOp;simp only [h208.ev 62 rfl];exact rfl))⟩) fun a211 h210=>?_
          refine wpAnyH_done κ ?_ _
          refine h210.sk [16,15,14,27,26,10,9,8,7,6,5,4,3,2,1,0] rfl fun h212=>?_
          iterate 2 go_step
          rw [← HS6.out,← HX6.out] at HE1
          go_step
          cases hno:s6.no with
          | true=>
            iterate 2 go_step
            refine wv h212 rfl rfl rfl rfl (.bool true) (by unfold execOp;simp only [h212.ev 6 rfl];exact Ac (Es (by have z:=HD6.out.d.f.cell (i:=0) (by simp);rw [hno] at z;exact z))) fun a214 h213=>?_
            iterate 3 go_step
            refine wp_cond (t:=true) (h213.ev 63 rfl) ?_
            simp only [if_true]
            refine h213.sk [16,15,14,27,26,10,9,8,7,6,5,4,3,2,1,0] rfl fun h215=>?_
            iterate 2 go_step
            refine h215.sk [16,15,14,27,26,10,9,8,7,6,5,4,3,1,0] rfl fun h216=>?_
            refine mv h216 rfl fun _ h217=>?_
            refine h217.sk [2,16,15,14,27,26,10,9,8,7,6,5,4,1,0] rfl fun h219=>?_
            refine mv h219 rfl fun _ h220=>?_
            refine h220.sk [3,2,16,15,14,27,26,10,9,8,7,6,5,1,0] rfl fun h222=>?_
            refine mv h222 rfl fun _ h223=>?_
            iterate 4 go_step
            simp only [Exit.then,Exit.inBlock]
            have hde:Ci xs=([],0,3):=by rw [HE1.out,if_pos hno]
            exact PD (L:=[]) (la:=none) (lc:=0) h223.defs (h223.known (2,.slice none 0 0) (by simp)) (h223.known (3,ν 0) (by simp)) (h223.known (4,ν 3) (by simp)) hde (Own.nil _ _ _ _) HD6.out.b
          | false=>
            iterate 2 go_step
            refine wv h212 rfl rfl rfl rfl (.bool false) (by unfold execOp;simp only [h212.ev 6 rfl];exact Ac (Es (by have z:=HD6.out.d.f.cell (i:=0) (by simp);rw [hno] at z;exact z))) fun a226 h225=>?_
            iterate 3 go_step
            refine wp_cond (t:=false) (h225.ev 63 rfl) ?_
            simp only [Bool.false_eq_true,if_false]
            refine h225.sk [16,15,14,27,26,10,9,8,7,6,5,4,3,2,1,0] rfl fun h227=>?_
            iterate 3 go_step
            have HE2:=hid (HE1.out.trans (if_neg (by rw [hno];decide)))
            go_step
            by_cases hz:∀ x∈x6,x=0
            · skip
              iterate 2 go_step
              refine mv h227 rfl fun _ h228=>?_
              refine AN h228 (wn rfl) rfl (by decide) (fr rfl) (fun args=>cF Tryz.func126 (args:=args) (w:=_)) rfl #[Aq x6,Aq [0]] (by simp only [List.map_toArray,List.map_cons,List.map_nil,h228.ev 64 rfl];rfl) (R:=fun v w'=>∃ r:List UInt8,v=Aq r∧(r=[]↔∀ x∈x6,x=0)∧Below wx6.heap.size wx6 w') (Kg x6 (by have:=bd6;unfold Bz at this;omega) wx6) fun a231 vt wt rt h230=>?_
              obtain ⟨tr,rfl,htr,bt⟩:=rt
              have HDT:=hid (HD6.out.mono bt);have HOT:=hid (Own.mono HOW6.out bt);clear bt
              have hrne:(!decide (tr=[]))=false:=by rw [decide_eq_true (htr.2 hz)];rfl
              refine wv h230 rfl rfl rfl rfl (.bool false) (by unfold execOp;simp only [h230.ev 65 rfl];exact Ac (Abc _ _ _ _ hrne)) fun a233 h232=>?_
              refine h232.sk [66,16,15,14,27,26,10,9,8,7,6,5,4,3,2,1,0] rfl fun h234=>?_
              iterate 3 go_step
              refine wp_cond (t:=false) (h234.ev 66 rfl) ?_
              simp only [Bool.false_eq_true,if_false]
              refine h234.sk [16,15,14,27,26,10,9,8,7,6,5,4,3,2,1,0] rfl fun h235=>?_
              iterate 4 go_step
              refine wp_region_held_drew (S:=fun w'=>w'=wt.drew) κ rfl (fun hS236=>?_)
              have HDe:=hid (HDT.out.mono (Below.refl _ _).drew);have HOe:=hid (Own.mono HOT.out (Below.refl _ _).drew)
              refine Aj hS236 h235 0 rfl rfl (by decide) (fr rfl) κ κ κ (fun _ _ _ _ h=>h) (.slice (some ⟨lg,0,none⟩) j j) (Or.inl ⟨Eq.refl true,fun w1 hSw=>(by cases hSw;exact (by show (execOp _ (⟨_,.move (.tmp 10),_,_,_,_⟩:Oper)).run _ _=_;exact (by unfold execOp;simp only [h235.ev 10 rfl];rfl)))⟩) fun a238 h237=>?_
              refine Aj hS236 h237 1 rfl rfl (by decide) (fr rfl) κ κ κ (fun _ _ _ _ h=>h) (ν (s6.at_:Int)) (Or.inl ⟨Eq.refl true,fun w1 hSw=>(by cases hSw;exact (by show (execOp _ (⟨_,.load 3 (.tmp 5),_,_,_,_⟩:Oper)).run _ _=_;exact (by unfold execOp;simp only [h237.ev 5 rfl];exact Ac (BN (HDe.out.d.p.cell (i:=0) (by simp))))))⟩) fun a240 h239=>?_
              refine h239.sk [68,67,16,15,14,27,26,10,9,8,7,6,5,4,3,1,0] rfl fun h241=>?_
              refine Aj hS236 h241 2 rfl rfl (by decide) (fr rfl) κ κ κ (fun _ _ _ _ h=>h) (.slice (some ⟨lg,0,none⟩) j j) (Or.inl ⟨Eq.refl true,fun w1 hSw=>(by cases hSw;exact (by show (execOp _ (⟨_,.assign (.tmp 67),_,_,_,_⟩:Oper)).run _ _=_;exact (by unfold execOp;simp only [h241.ev 67 rfl];rfl)))⟩) fun a243 h242=>?_
              refine h242.sk [2,68,67,16,15,14,27,26,10,9,8,7,6,5,4,1,0] rfl fun h244=>?_
              refine Aj hS236 h244 3 rfl rfl (by decide) (fr rfl) κ κ κ (fun _ _ _ _ h=>h) (ν (s6.at_:Int)) (Or.inl ⟨Eq.refl true,fun w1 hSw=>(by cases hSw;exact (by show (execOp _ (⟨_,.assign (.tmp 68),_,_,_,_⟩:Oper)).run _ _=_;exact (by unfold execOp;simp only [h244.ev 68 rfl];rfl)))⟩) fun a246 h245=>?_
              refine h245.sk [3,2,68,67,16,15,14,27,26,10,9,8,7,6,5,1,0] rfl fun h247=>?_
              refine Aj hS236 h247 4 rfl rfl (by decide) (fr rfl) (by kernel_rfl) (by kernel_rfl) (by kernel_rfl) (fun _ _ _ _ h=>h) (.int .i64 0) (Or.inl ⟨Eq.refl true,fun w1 hSw=>(by cases hSw;exact (by show (execOp _ (⟨_,.assign (.const (.int .i64 0)),_,_,_,_⟩:Oper)).run _ _=_;exact rfl))⟩) fun a249 h248=>?_
              refine wpAnyH_done (by kernel_rfl) ?_ _
              refine h248.sk [4,3,2,16,15,14,27,26,10,9,8,7,6,5,1,0] rfl fun h250=>?_
              iterate 3 go_step
              exact PD (L:=acc) (la:=some ⟨lg,0,none⟩) (lc:=j) h250.defs (by rw [hal];exact h250.known (2,.slice (some ⟨lg,0,none⟩) j j) (by simp)) (h250.known (3,.int .i64 (s6.at_:Int)) (by simp)) (h250.known (4,.int .i64 0) (by simp)) (HE2.out.trans (if_pos hz)) HOe.out HDe.out.b
            · skip
              iterate 2 go_step
              refine mv h227 rfl fun _ h251=>?_
              refine AN h251 (Aa rfl) rfl (by decide) (fr rfl) (fun args=>cF Tryz.func126 (args:=args) (w:=_)) rfl #[Aq x6,Aq [0]] (by simp only [List.map_toArray,List.map_cons,List.map_nil,h251.ev 64 rfl];rfl) (R:=fun v w'=>∃ r:List UInt8,v=Aq r∧(r=[]↔∀ x∈x6,x=0)∧Below wx6.heap.size wx6 w') (Kg x6 (by have:=bd6;unfold Bz at this;omega) wx6) fun a254 vt wt rt h253=>?_
              obtain ⟨tr,rfl,htr,bt⟩:=rt
              have HDT:=hid (HD6.out.mono bt);have HOT:=hid (Own.mono HOW6.out bt);clear bt
              have hrne:(!decide (tr=[]))=true:=by rw [decide_eq_false (fun q=>hz (htr.1 q))];rfl
              refine wv h253 rfl rfl rfl rfl (.bool true) (by unfold execOp;simp only [h253.ev 65 rfl];exact Ac (Abc _ _ _ _ hrne)) fun a256 h255=>?_
              refine h255.sk [66,16,15,14,27,26,10,9,8,7,6,5,4,3,2,1,0] rfl fun h257=>?_
              iterate 3 go_step
              refine wp_cond (t:=true) (h257.ev 66 rfl) ?_
              simp only [if_true]
              refine h257.sk [16,15,14,27,26,10,9,8,7,6,5,4,3,2,1,0] rfl fun h258=>?_
              iterate 2 go_step
              refine h258.sk [16,15,14,27,26,10,9,8,7,6,5,4,3,1,0] rfl fun h259=>?_
              refine mv h259 rfl fun _ h260=>?_
              refine h260.sk [2,16,15,14,27,26,10,9,8,7,6,5,4,1,0] rfl fun h262=>?_
              refine mv h262 rfl fun _ h263=>?_
              refine h263.sk [3,2,16,15,14,27,26,10,9,8,7,6,5,1,0] rfl fun h265=>?_
              refine mv h265 rfl fun _ h266=>?_
              iterate 4 go_step
              simp only [Exit.then,Exit.inBlock]
              have hde:Ci xs=([],0,2):=by rw [HE2.out,if_neg hz]
              exact PD (L:=[]) (la:=none) (lc:=0) h266.defs (h266.known (2,.slice none 0 0) (by simp)) (h266.known (3,.int .i64 0) (by simp)) (h266.known (4,.int .i64 2) (by simp)) hde (Own.nil _ _ _ _) HDT.out.b
        | false=>
          have hne:((x5:Int) != (cr:Int))=false:=by simp;have:¬ x5≠cr:=fun q=>hsum ⟨hno,q⟩;omega
          iterate 2 go_step
          refine wv h160 rfl rfl rfl rfl (.bool false) (by unfold execOp;simp only [h160.ev 6 rfl];exact Ac (Es (by have z:=HD5.out.d.f.cell (i:=0) (by simp);rw [hno] at z;exact z))) fun a269 h268=>?_
          refine wv h268 rfl rfl rfl rfl (.bool true) (Fd rfl (h268.ev 52 rfl)) fun a271 h270=>?_
          refine mv h270 rfl fun _ h272=>?_
          refine Ak h272 (by rw [Ab (g:=2) (want:=true) (b:=true) rfl (h272.yields (prev:=54) rfl (by simp))];rfl) rfl (by decide) (fr rfl) (.int .i64 (x5:Int)) (by unfold execOp;simp only [h272.ev 15 rfl];rfl) fun a275 h274=>?_
          refine Ak h274 (by rw [Ab (g:=2) (want:=true) (b:=true) rfl (h274.yields (prev:=54) rfl (by simp))];rfl) rfl (by decide) (fr rfl) (.int .i64 (cr:Int)) (by unfold execOp;simp only [h274.ev 14 rfl];rfl) fun a277 h276=>?_
          refine Ak h276 (by rw [Ab (g:=2) (want:=true) (b:=true) rfl (h276.yields (prev:=54) rfl (by simp))];rfl) rfl (by decide) (fr rfl) (.bool false) (by unfold execOp;simp only [h276.ev 55 rfl,h276.ev 56 rfl];exact Ac (Acq _ _ _ _ _ hne)) fun a279 h278=>?_
          refine wv h278 rfl rfl rfl rfl (.bool false) (Bf rfl (h278.ev 54 rfl) (by rw [if_pos rfl];exact h278.ev 57 rfl)) fun a281 h280=>?_
          refine h280.sk [58,15,14,27,26,10,9,8,7,6,5,4,3,2,1,0] rfl fun h282=>?_
          iterate 3 go_step
          refine wp_cond (t:=false) (h282.ev 58 rfl) ?_
          simp only [Bool.false_eq_true,if_false]
          refine h282.sk [15,14,27,26,10,9,8,7,6,5,4,3,2,1,0] rfl fun h283=>?_
          iterate 4 go_step
          have HDd:=hid (HD5.out.mono (Below.refl _ _).drew);have HOd:=hid (Own.mono HOW5.out (Below.refl _ _).drew)
          refine wp_region_held_drew (S:=fun w'=>Blk w' Bt 193 [Nr Bs Bb Ba]) (by kernel_rfl) HDd.out.t (fun hS20=>?_)
          refine Aj hS20 h283 0 rfl rfl (by decide) (fr rfl) (by kernel_rfl) (by kernel_rfl) (by kernel_rfl) (fun _ _ _ _ h=>h) (.func (.func 124) #[] #[.pointer (some ⟨Bs,0,none⟩),.pointer (some ⟨Bb,0,none⟩),.pointer (some ⟨Ba,0,none⟩)]) (Or.inl ⟨Eq.refl true,fun w1 hSw=>(by show (execOp _ (⟨_,.load 193 (.tmp 7),_,_,_,_⟩:Oper)).run _ _=_;exact (by unfold execOp;simp only [h283.ev 7 rfl];exact Ac (Pn (by have z:=hSw.cell (i:=0) (by simp);exact z))))⟩) fun a285 h284=>?_
          refine AE 1 rfl rfl (by kernel_rfl) fun K hK=>Ds (w':=wx5.drew) h284 rfl (by decide) (fr rfl) (.int .i64 (s5.at_:Int)) (by show (execOp _ (⟨_,.load 3 (.tmp 5),_,_,_,_⟩:Oper)).run _ _=_;exact (by unfold execOp;simp only [h284.ev 5 rfl];exact Ac (BN (HDd.out.d.p.cell (i:=0) (by simp))))) fun a287 h286=>hK _ _ hS20 fun hS21=>?_
          clear hK K
          refine AE 2 rfl rfl κ fun K hK=>DA h286 rfl (by decide) (fr rfl) (fun args=>cF Tryz.func89 (args:=args) (w:=_)) rfl #[ν (s5.at_:Int)] (by simp only [List.map_toArray,List.map_cons,List.map_nil,h286.ev 60 rfl]) (R:=fun v w'=>v=ν (Bz s5.at_:Int)∧wx5.drew=w') ((Id s5.at_ (by have:=HDd.out.d.at_;omega) wx5.drew).mono fun e w' q=>⟨_,q.1,rfl,q.2⟩) fun a289 vp wp rp h288=>hK _ _ (by rw [← rp.2];exact hS21) fun hS22=>?_
          clear hK K
          obtain ⟨rfl,rfl⟩:=rp
          refine AE 3 rfl rfl κ fun K hK=>QK h288 rfl (by decide) (fr rfl) (fun args=>cF Tryz.func124 (args:=args) (w:=_)) rfl #[ν (Bz s5.at_:Int)] #[π Bs,π Bb,π Ba] (h288.ev 59 rfl) (by simp only [List.map_toArray,List.map_cons,List.map_nil,h288.ev 61 rfl]) (R:=fun v w'=>v=Aq (Bu xs s5 (Bz s5.at_)).1∧DecS w w' Bb Ba Bs Bt a c xs (Bu xs s5 (Bz s5.at_)).2∧Turns (fun k=>k=Ba∨k=Bs) wx5.drew w') (HDd.out.take HR0.out hl (Bz s5.at_) (by unfold Bz;omega)) fun a291 vx6 wx6 rx6 h290=>hK _ _ rx6.2.1.t fun hS23=>?_
          clear hK K
          obtain ⟨rfl,q1,q2⟩:=rx6
          obtain ⟨x6,hx6⟩:∃ x,x=(Bu xs s5 (Bz s5.at_)).1:=⟨_,rfl⟩
          obtain ⟨s6,hs6⟩:∃ x,x=(Bu xs s5 (Bz s5.at_)).2:=⟨_,rfl⟩
          have bd6:x6.length≤(Bz s5.at_):=by rw [hx6];exact IH _ _ _
          rw [← hx6] at h290;rw [← hs6] at q1
          have HOW6:=hid (HDd.out.own HOd.out q2)
          have HX6:=hid hx6;have HS6:=hid hs6;have HD6:=hid q1;clear q1 q2 hx6 hs6
          refine Aj hS23 h290 4 rfl rfl (by decide) (fr rfl) κ κ κ (fun _ _ _ _ h=>h) (Aq x6) (Or.inl ⟨Eq.refl true,fun w1 _=>(by show (execOp _ (⟨_,.assign (.tmp 62),_,_,_,_⟩:Oper)).run _ _=_;exact (by unfold execOp;simp only [h290.ev 62 rfl];exact rfl))⟩) fun a293 h292=>?_
          refine wpAnyH_done κ ?_ _
          refine h292.sk [16,15,14,27,26,10,9,8,7,6,5,4,3,2,1,0] rfl fun h294=>?_
          iterate 2 go_step
          rw [← HS6.out,← HX6.out] at HE1
          go_step
          cases hno:s6.no with
          | true=>
            iterate 2 go_step
            refine wv h294 rfl rfl rfl rfl (.bool true) (by unfold execOp;simp only [h294.ev 6 rfl];exact Ac (Es (by have z:=HD6.out.d.f.cell (i:=0) (by simp);rw [hno] at z;exact z))) fun a296 h295=>?_
            iterate 3 go_step
            refine wp_cond (t:=true) (h295.ev 63 rfl) ?_
            simp only [if_true]
            refine h295.sk [16,15,14,27,26,10,9,8,7,6,5,4,3,2,1,0] rfl fun h297=>?_
            iterate 2 go_step
            refine h297.sk [16,15,14,27,26,10,9,8,7,6,5,4,3,1,0] rfl fun h298=>?_
            refine mv h298 rfl fun _ h299=>?_
            refine h299.sk [2,16,15,14,27,26,10,9,8,7,6,5,4,1,0] rfl fun h301=>?_
            refine mv h301 rfl fun _ h302=>?_
            refine h302.sk [3,2,16,15,14,27,26,10,9,8,7,6,5,1,0] rfl fun h304=>?_
            refine mv h304 rfl fun _ h305=>?_
            iterate 4 go_step
            simp only [Exit.then,Exit.inBlock]
            have hde:Ci xs=([],0,3):=by rw [HE1.out,if_pos hno]
            exact PD (L:=[]) (la:=none) (lc:=0) h305.defs (h305.known (2,.slice none 0 0) (by simp)) (h305.known (3,ν 0) (by simp)) (h305.known (4,ν 3) (by simp)) hde (Own.nil _ _ _ _) HD6.out.b
          | false=>
            iterate 2 go_step
            refine wv h294 rfl rfl rfl rfl (.bool false) (by unfold execOp;simp only [h294.ev 6 rfl];exact Ac (Es (by have z:=HD6.out.d.f.cell (i:=0) (by simp);rw [hno] at z;exact z))) fun a308 h307=>?_
            iterate 3 go_step
            refine wp_cond (t:=false) (h307.ev 63 rfl) ?_
            simp only [Bool.false_eq_true,if_false]
            refine h307.sk [16,15,14,27,26,10,9,8,7,6,5,4,3,2,1,0] rfl fun h309=>?_
            iterate 3 go_step
            have HE2:=hid (HE1.out.trans (if_neg (by rw [hno];decide)))
            go_step
            by_cases hz:∀ x∈x6,x=0
            · skip
              iterate 2 go_step
              refine mv h309 rfl fun _ h310=>?_
              refine AN h310 (wn rfl) rfl (by decide) (fr rfl) (fun args=>cF Tryz.func126 (args:=args) (w:=_)) rfl #[Aq x6,Aq [0]] (by simp only [List.map_toArray,List.map_cons,List.map_nil,h310.ev 64 rfl];rfl) (R:=fun v w'=>∃ r:List UInt8,v=Aq r∧(r=[]↔∀ x∈x6,x=0)∧Below wx6.heap.size wx6 w') (Kg x6 (by have:=bd6;unfold Bz at this;omega) wx6) fun a313 vt wt rt h312=>?_
              obtain ⟨tr,rfl,htr,bt⟩:=rt
              have HDT:=hid (HD6.out.mono bt);have HOT:=hid (Own.mono HOW6.out bt);clear bt
              have hrne:(!decide (tr=[]))=false:=by rw [decide_eq_true (htr.2 hz)];rfl
              refine wv h312 rfl rfl rfl rfl (.bool false) (by unfold execOp;simp only [h312.ev 65 rfl];exact Ac (Abc _ _ _ _ hrne)) fun a315 h314=>?_
              refine h314.sk [66,16,15,14,27,26,10,9,8,7,6,5,4,3,2,1,0] rfl fun h316=>?_
              iterate 3 go_step
              refine wp_cond (t:=false) (h316.ev 66 rfl) ?_
              simp only [Bool.false_eq_true,if_false]
              refine h316.sk [16,15,14,27,26,10,9,8,7,6,5,4,3,2,1,0] rfl fun h317=>?_
              iterate 4 go_step
              refine wp_region_held_drew (S:=fun w'=>w'=wt.drew) κ rfl (fun hS318=>?_)
              have HDe:=hid (HDT.out.mono (Below.refl _ _).drew);have HOe:=hid (Own.mono HOT.out (Below.refl _ _).drew)
              refine Aj hS318 h317 0 rfl rfl (by decide) (fr rfl) κ κ κ (fun _ _ _ _ h=>h) (.slice (some ⟨lg,0,none⟩) j j) (Or.inl ⟨Eq.refl true,fun w1 hSw=>(by cases hSw;exact (by show (execOp _ (⟨_,.move (.tmp 10),_,_,_,_⟩:Oper)).run _ _=_;exact (by unfold execOp;simp only [h317.ev 10 rfl];rfl)))⟩) fun a320 h319=>?_
              refine Aj hS318 h319 1 rfl rfl (by decide) (fr rfl) κ κ κ (fun _ _ _ _ h=>h) (ν (s6.at_:Int)) (Or.inl ⟨Eq.refl true,fun w1 hSw=>(by cases hSw;exact (by show (execOp _ (⟨_,.load 3 (.tmp 5),_,_,_,_⟩:Oper)).run _ _=_;exact (by unfold execOp;simp only [h319.ev 5 rfl];exact Ac (BN (HDe.out.d.p.cell (i:=0) (by simp))))))⟩) fun a322 h321=>?_
              refine h321.sk [68,67,16,15,14,27,26,10,9,8,7,6,5,4,3,1,0] rfl fun h323=>?_
              refine Aj hS318 h323 2 rfl rfl (by decide) (fr rfl) κ κ κ (fun _ _ _ _ h=>h) (.slice (some ⟨lg,0,none⟩) j j) (Or.inl ⟨Eq.refl true,fun w1 hSw=>(by cases hSw;exact (by show (execOp _ (⟨_,.assign (.tmp 67),_,_,_,_⟩:Oper)).run _ _=_;exact (by unfold execOp;simp only [h323.ev 67 rfl];rfl)))⟩) fun a325 h324=>?_
              refine h324.sk [2,68,67,16,15,14,27,26,10,9,8,7,6,5,4,1,0] rfl fun h326=>?_
              refine Aj hS318 h326 3 rfl rfl (by decide) (fr rfl) κ κ κ (fun _ _ _ _ h=>h) (ν (s6.at_:Int)) (Or.inl ⟨Eq.refl true,fun w1 hSw=>(by cases hSw;exact (by show (execOp _ (⟨_,.assign (.tmp 68),_,_,_,_⟩:Oper)).run _ _=_;exact (by unfold execOp;simp only [h326.ev 68 rfl];rfl)))⟩) fun a328 h327=>?_
              refine h327.sk [3,2,68,67,16,15,14,27,26,10,9,8,7,6,5,1,0] rfl fun h329=>?_
              refine Aj hS318 h329 4 rfl rfl (by decide) (fr rfl) κ κ κ (fun _ _ _ _ h=>h) (ν 0) (Or.inl ⟨Eq.refl true,fun w1 hSw=>(by cases hSw;exact (by show (execOp _ (⟨_,.assign (.const (ν 0)),_,_,_,_⟩:Oper)).run _ _=_;exact rfl))⟩) fun a331 h330=>?_
              refine wpAnyH_done (by kernel_rfl) ?_ _
              refine h330.sk [4,3,2,16,15,14,27,26,10,9,8,7,6,5,1,0] rfl fun h332=>?_
              iterate 3 go_step
              exact PD (L:=acc) (la:=some ⟨lg,0,none⟩) (lc:=j) h332.defs (by rw [hal];exact h332.known (2,.slice (some ⟨lg,0,none⟩) j j) (by simp)) (h332.known (3,ν (s6.at_:Int)) (by simp)) (h332.known (4,ν 0) (by simp)) (HE2.out.trans (if_pos hz)) HOe.out HDe.out.b
            · skip
              iterate 2 go_step
              refine mv h309 rfl fun _ h333=>?_
              refine AN h333 (wn rfl) rfl (by decide) (fr rfl) (fun args=>cF Tryz.func126 (args:=args) (w:=_)) rfl #[Aq x6,Aq [0]] (by simp only [List.map_toArray,List.map_cons,List.map_nil,h333.ev 64 rfl];rfl) (R:=fun v w'=>∃ r:List UInt8,v=Aq r∧(r=[]↔∀ x∈x6,x=0)∧Below wx6.heap.size wx6 w') (Kg x6 (by have:=bd6;unfold Bz at this;omega) wx6) fun a336 vt wt rt h335=>?_
              obtain ⟨tr,rfl,htr,bt⟩:=rt
              have HDT:=hid (HD6.out.mono bt);have HOT:=hid (Own.mono HOW6.out bt);clear bt
              have hrne:(!decide (tr=[]))=true:=by rw [decide_eq_false (fun q=>hz (htr.1 q))];rfl
              refine wv h335 rfl rfl rfl rfl (.bool true) (by unfold execOp;simp only [h335.ev 65 rfl];exact Ac (Abc _ _ _ _ hrne)) fun a338 h337=>?_
              refine h337.sk [66,16,15,14,27,26,10,9,8,7,6,5,4,3,2,1,0] rfl fun h339=>?_
              iterate 3 go_step
              refine wp_cond (t:=true) (h339.ev 66 rfl) ?_
              simp only [if_true]
              refine h339.sk [16,15,14,27,26,10,9,8,7,6,5,4,3,2,1,0] rfl fun h340=>?_
              iterate 2 go_step
              refine h340.sk [16,15,14,27,26,10,9,8,7,6,5,4,3,1,0] rfl fun h341=>?_
              refine mv h341 rfl fun _ h342=>?_
              refine h342.sk [2,16,15,14,27,26,10,9,8,7,6,5,4,1,0] rfl fun h344=>?_
              refine mv h344 rfl fun _ h345=>?_
              refine h345.sk [3,2,16,15,14,27,26,10,9,8,7,6,5,1,0] rfl fun h347=>?_
              refine mv h347 rfl fun _ h348=>?_
              iterate 4 go_step
              simp only [Exit.then,Exit.inBlock]
              have hde:Ci xs=([],0,2):=by rw [HE2.out,if_neg hz]
              exact PD (L:=[]) (la:=none) (lc:=0) h348.defs (h348.known (2,.slice none 0 0) (by simp)) (h348.known (3,ν 0) (by simp)) (h348.known (4,ν 2) (by simp)) hde (Own.nil _ _ _ _) HDT.out.b
end
end Go.Proofs.YtbfgjinpchbajaaGreatDoor
