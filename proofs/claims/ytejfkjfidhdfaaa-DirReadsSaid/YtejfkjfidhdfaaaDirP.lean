/- The entries that bytes are: read. -/
import Derived.Test.YtejfkjfidhdfaaaDirM
namespace Go.Proofs.Ytejfkjfidhdfaaa
open Go.RowKit Go.Shelf
set_option linter.unusedSimpArgs false
set_option linter.unusedVariables false

/-- a whole value stored, at the operation itself -/
theorem wpo_storeM {P : Program} {w : World} {o : Oper} {act : Act} {K : Act → World → Prop} {Q : Exit → Act → World → Prop} (T : TypeId) (x y : Operand)
    (ho : o.op = .store T x y) (g off : Nat) (hx : act.eval x = .pointer (some ⟨g, off, none⟩)) {e : TypeId} (vs : List Value) (hy : act.eval y = .agg vs.toArray) (hn : (P.info? T).map (·.size) = some vs.length) (h1 : ∀ v ∈ vs, v.oneCell' = true) {L : List Value} (hb : Blk w g e L) (hL : off + vs.length ≤ L.length)
    (h : ∀ w', Blk w' g e (splice L off vs) → w.grownBy w' (some g) → K (act.put o.dst undef) w') : o.wp P act w K Q := by
  refine wp_store_mid T x y ho g off vs.toArray hx hy (by simpa using hb.there off vs.length hL) (by simpa using hn) (all_oneCell_toArray h1) ?_
  obtain ⟨h2, h3⟩ := Blk.setCells vs off w L hb hL
  exact h _ h2 h3
/-- the name in an entry's bytes -/
def nmR (bs : List UInt8) : ByteArray := ⟨((bs.drop 2).take (bAt bs 1)).toArray⟩
/-- the entry that 16 bytes are -/
def decR (bs : List UInt8) : Option EntT := if bAt bs 1 ≤ 12 ∧ mayE (nmR bs) (bAt bs 0) = true ∧ (bs.drop (2 + bAt bs 1)).all (fun b => b == 0) = true then some ⟨nmR bs, bAt bs 0⟩ else none

theorem nmR_size {bs : List UInt8} (h : bs.length = 16) (hn : bAt bs 1 ≤ 14) : (nmR bs).size = bAt bs 1 := by
  show ((bs.drop 2).take (bAt bs 1)).toArray.size = _
  simp; omega
theorem cons2 {bs : List UInt8} (h : bs.length = 16) : bs = [UInt8.ofNat (bAt bs 0), UInt8.ofNat (bAt bs 1)] ++ bs.drop 2 := by
  match bs, h with
  | x :: y :: r, _ => simp [bAt]
theorem entB_iff {bs : List UInt8} (h : bs.length = 16) (hn : bAt bs 1 ≤ 14) : entB (nmR bs) (bAt bs 0) = bs ↔ (bs.drop (2 + bAt bs 1)).all (fun b => b == 0) = true := by
  have hs := nmR_size h hn
  have e1 : (nmR bs).data.toList = (bs.drop 2).take (bAt bs 1) := by simp [nmR]
  have e0 : ((bAt bs 0 : Nat) : Int).toNat = bAt bs 0 := by omega
  have hd : bs = [UInt8.ofNat (bAt bs 0), UInt8.ofNat (bAt bs 1)] ++ ((bs.drop 2).take (bAt bs 1) ++ bs.drop (2 + bAt bs 1)) := by
    have := cons2 h
    rw [show bs.drop (2 + bAt bs 1) = (bs.drop 2).drop (bAt bs 1) by rw [List.drop_drop]]
    rw [List.take_append_drop]; exact this
  have hl : (bs.drop (2 + bAt bs 1)).length = 14 - bAt bs 1 := by rw [List.length_drop]; omega
  unfold entB
  rw [hs, e1, e0, List.append_assoc]
  constructor
  · intro he
    have := List.append_cancel_left (List.append_cancel_left (he.trans hd))
    rw [← this]
    simp
  · intro ha
    have hz : bs.drop (2 + bAt bs 1) = List.replicate (14 - bAt bs 1) 0 := by
      rw [← hl]
      exact List.eq_replicate_of_mem (fun b hb => by simpa using List.all_eq_true.1 ha b hb)
    rw [← hz]; exact hd.symm
theorem decR_bad {bs : List UInt8} (h : ¬ bAt bs 1 ≤ 12) : decR bs = none := if_neg (fun q => h q.1)
theorem decR_eq {bs : List UInt8} (h : bs.length = 16) (hn : bAt bs 1 ≤ 14) : decR bs = if mayE (nmR bs) (bAt bs 0) = true ∧ entB (nmR bs) (bAt bs 0) = bs then some ⟨nmR bs, bAt bs 0⟩ else none := by
  unfold decR
  by_cases hm : mayE (nmR bs) (bAt bs 0) = true
  · have := (mayE_bd hm).2.2
    rw [nmR_size h hn] at this
    have hi := entB_iff h hn
    by_cases he : entB (nmR bs) (bAt bs 0) = bs
    · rw [if_pos ⟨this, hm, hi.1 he⟩, if_pos ⟨hm, he⟩]
    · rw [if_neg (fun q => he (hi.2 q.2.2)), if_neg (fun q => he q.2)]
  · rw [if_neg (fun q => hm q.2.1), if_neg (fun q => hm q.1)]

theorem get1_any {xs : List UInt8} (i : Nat) (h : i < xs.length) : getF xs (i : Int) 1 = some (bAt xs i) := by
  have e : (xs.drop i).take 1 = [xs[i]] := by
    rw [List.drop_eq_getElem_cons h]; rfl
  have hb := bAt_lt xs i
  unfold getF
  rw [if_pos ⟨by decide, by omega, by omega⟩, show ((i : Int)).toNat = i by omega, show ((1 : Int)).toNat = 1 by omega, e]
  have : ofLE [xs[i]] = bAt xs i := by simp [ofLE, bAt_eq h]
  rw [this, if_pos (by omega)]
/-- what read tells -/
def ReadE (w : World) (bs : List UInt8) (e : Ending) (w' : World) : Prop :=
  ∃ (nm : ByteArray) (ino : Int) (b : Bool), e = .returned (.tuple #[.agg #[.string nm, .int .i64 ino], .bool b]) ∧ (b = true → decR bs = some ⟨nm, ino⟩) ∧ (b = false → decR bs = none) ∧ Below w.heap.size w w'
theorem infoEnt2 : (Try.prog.info? 24).map (·.size) = some [Value.string ⟨#[]⟩, .int .i64 0].length := infoEnt
theorem results_ent {fn : Func} {c u : Tmp} (h : fn.results = #[.cell c 24, .tmp u]) {tmps : Array Value} {w : World} {g : Nat} {e : TypeId} {n : ByteArray} {i : Int} (hc : tmps.getD c undef = .pointer (some ⟨g, 0, none⟩)) (hb : Blk w g e [.string n, .int .i64 i]) :
    (results fn tmps).run Try.prog w = .ok (.tuple #[.agg #[.string n, .int .i64 i], tmps.getD u undef]) w :=
  results_cell2 h hc hb Try.underlying24 rfl (by rw [infoEnt]; rfl)

set_option maxHeartbeats 2000000 in
set_option maxRecDepth 100000 in
theorem dread_any (b off c : Nat) (bs : List UInt8) (hbs : bs.length = 16) (w : World) (hr : RowB w (some ⟨b, off, none⟩) c bs) : Calls Try.prog 38 #[.slice (some ⟨b, off, none⟩) 16 c] w (ReadE w bs) := by
  have hc16 : 16 ≤ c := by have := hr.2.1; omega
  have hc9 : c ≤ 9223372036854775807 := by have := hr.2.2.1; unfold maxLen at this; omega
  have K0 := hid (blk_newO (W := w) rfl 24 [.string ⟨#[]⟩, .int .i64 0])
  have B0 := hid (albO w (.cells #[.string ⟨#[]⟩, .int .i64 0] 24))
  have HROW := hid hr
  have HG0 := get_any (some ⟨b, off, none⟩) c bs 0 1 (w.alloc (.cells #[.string ⟨#[]⟩, .int .i64 0] 24)) (hr.alloc _) (by omega)
  have HG1 := get_any (some ⟨b, off, none⟩) c bs 1 1 (w.alloc (.cells #[.string ⟨#[]⟩, .int .i64 0] 24)) (hr.alloc _) (by omega)
  rw [show (0 : Int) = ((0 : Nat) : Int) from rfl, get1_any 0 (by omega), hbs] at HG0
  rw [show getF bs (1 : Int) 1 = some (bAt bs 1) from get1_any 1 (by omega), hbs] at HG1
  unfold getV at HG0 HG1
  simp only [Option.getD_some, Option.isSome_some, Int.ofNat_zero] at HG0 HG1
  have HG0 := hid HG0; have HG1 := hid HG1
  have l0 := bAt_lt bs 0; have l1 := bAt_lt bs 1
  have hr' := hr
  clear hr
  by_cases hn : bAt bs 1 ≤ 14
  · have hs := nmR_size hbs hn
    have hdr := decR_eq hbs hn
    have hrs := rowB_sub (show RowB (w.alloc (.cells #[.string ⟨#[]⟩, .int .i64 0] 24)) (some ⟨b, off, none⟩) c bs from hr'.alloc _) 2 (bAt bs 1) (by omega)
    have hcv := run_str hrs
    have hln : ((bs.drop 2).take (bAt bs 1)).length = bAt bs 1 := by simp; omega
    rw [hln] at hcv
    have hcv' : (convert 45 9 (.slice (some ⟨b, off + 2, none⟩) (bAt bs 1) (c - 2))).run Try.prog (w.alloc (.cells #[.string ⟨#[]⟩, .int .i64 0] 24)) = .ok (.string (nmR bs)) (w.alloc (.cells #[.string ⟨#[]⟩, .int .i64 0] 24)) := hcv
    have HM := fun w1 => dirMay_any (nmR bs) (bAt bs 0) w1
    have HPU := fun (hm : mayE (nmR bs) (bAt bs 0) = true) w1 => dirPut_any (nmR bs) (bAt bs 0) ⟨by omega, by omega⟩ (by have := (mayE_bd hm).2.2; omega) w1
    have HE16 : mayE (nmR bs) (bAt bs 0) = true → (entB (nmR bs) (bAt bs 0)).length = 16 := fun hm => entB_len _ _ (by have := (mayE_bd hm).2.2; omega)
    have HEQ := fun (a : Option Addr) (c' : Nat) (w1 : World) (h1 : RowB w1 a c' (entB (nmR bs) (bAt bs 0))) (h2 : RowB w1 (some ⟨b, off, none⟩) c bs) => equal_any a (some ⟨b, off, none⟩) c' c (entB (nmR bs) (bAt bs 0)) bs w1 h1 h2
    have HDR := hid hdr; have HSZ := hid hs
    clear hrs hcv hdr hs hln
    have d1 : decide (14 < ((bAt bs 1 : Nat) : Int)) = false := decide_eq_false (by omega)
    have i1 : ¬ 14 < ((bAt bs 1 : Nat) : Int) := by omega
    have hc2 : ¬ c = 2 := by omega
    generalize entB (nmR bs) (bAt bs 0) = EB at *
    generalize nmR bs = nm at *
    generalize bAt bs 0 = x at *
    generalize bAt bs 1 = n at *
    have W1 : Hid (Below w.heap.size w ((w.alloc (.cells #[.string ⟨#[]⟩, .int .i64 0] 24)).alloc (.cells #[.string nm, .int .i64 (x : Int)] 24))) := hid (B0.out.alloc B0.out.size _)
    have KE := hid (blk_newO (W := w.alloc (.cells #[.string ⟨#[]⟩, .int .i64 0] 24)) (n := w.heap.size + 1) (by simp) 24 [.string nm, .int .i64 (x : Int)])
    have K1 := hid (K0.out.mono (albO _ (.cells #[.string nm, .int .i64 (x : Int)] 24)))
    have HRG : Hid (∀ (X Y : World) (L : List Value), X.rangeAt (w.heap.size + 1) 0 L → X.grownBy Y (some w.heap.size) → Y.rangeAt (w.heap.size + 1) 0 L) := hid (fun X Y L h g j u hu => (World.cell?_of_block (a := ⟨w.heap.size + 1, 0 + j, none⟩) (g.block _ (World.block_lt_of_cell? X _ (h j u hu)) (by simp))).trans (h j u hu))
    have HSTEP : Hid (∀ X Y : World, (X.rangeAt (w.heap.size + 1) 0 [.string nm, .int .i64 (x : Int)] ∧ (∃ L2, Blk X w.heap.size 24 L2 ∧ L2.length = 2) ∧ Below w.heap.size w X ∧ w.heap.size + 2 ≤ X.heap.size) → Below X.heap.size X Y → (Y.rangeAt (w.heap.size + 1) 0 [.string nm, .int .i64 (x : Int)] ∧ (∃ L2, Blk Y w.heap.size 24 L2 ∧ L2.length = 2) ∧ Below w.heap.size w Y ∧ w.heap.size + 2 ≤ Y.heap.size)) :=
      hid (fun X Y h b => ⟨range_below h.1 b, ⟨h.2.1.choose, h.2.1.choose_spec.1.mono b, h.2.1.choose_spec.2⟩, kept_trans h.2.2.1 b, Nat.le_trans h.2.2.2 b.size⟩)
    go_enter Try.func38, Try.ntmps38
    go_wp2_with (go_at_call 46; fail)
    refine (HG0.out).mono ?_
    rintro e w1 ⟨rfl, rfl⟩
    go_wp2_with (go_at_call 46; fail)
    refine (HG1.out).mono ?_
    rintro e w1 ⟨rfl, rfl⟩
    go_wp2_with fail
    have hS0 : ((w.alloc (.cells #[.string ⟨#[]⟩, .int .i64 0] 24)).alloc (.cells #[.string nm, .int .i64 (x : Int)] 24)).drew.rangeAt (w.heap.size + 1) 0 [.string nm, .int .i64 (x : Int)] ∧ (∃ L2, Blk ((w.alloc (.cells #[.string ⟨#[]⟩, .int .i64 0] 24)).alloc (.cells #[.string nm, .int .i64 (x : Int)] 24)).drew w.heap.size 24 L2 ∧ L2.length = 2) ∧ Below w.heap.size w ((w.alloc (.cells #[.string ⟨#[]⟩, .int .i64 0] 24)).alloc (.cells #[.string nm, .int .i64 (x : Int)] 24)).drew ∧ w.heap.size + 2 ≤ ((w.alloc (.cells #[.string ⟨#[]⟩, .int .i64 0] 24)).alloc (.cells #[.string nm, .int .i64 (x : Int)] 24)).drew.heap.size :=
      ⟨Blk.range (Blk.drew KE.out), ⟨_, Blk.drew K1.out, rfl⟩, W1.out.drew, by show w.heap.size + 2 ≤ ((w.alloc _).alloc _).heap.size; simp⟩
    clear hcv' hc2
    cases hm : mayE nm (x : Int) with
    | false =>
      rw [hm] at HM
      have HD : Hid (decR bs = none) := hid (by rw [HDR.out, if_neg (fun q => by rw [hm] at q; cases q.1)])
      have HM := hid HM
      clear hm HPU HE16 HEQ
      refine wp_region_held_drew (S := fun w' => w'.rangeAt (w.heap.size + 1) 0 [.string nm, .int .i64 (x : Int)] ∧ (∃ L2, Blk w' w.heap.size 24 L2 ∧ L2.length = 2) ∧ Below w.heap.size w w' ∧ w.heap.size + 2 ≤ w'.heap.size) (by kernel_rfl) hS0 (fun hS_0 => ?_)
      refine wpAnyH_loadC (i := 0) 24 _ ((w.heap.size + 1)) 0 [.string nm, .int .i64 (x : Int)] _ rfl rfl rfl rfl (Eq.refl true) Try.underlying24 rfl (by rw [infoEnt]; rfl) (by kernel_rfl) (by kernel_rfl) (by kernel_rfl) (fun _ _ _ h => h) (fun w' h' => h'.1) hS_0 ?_
      (try simp only [Act.put, List.setIfInBounds_toArray, List.set_cons_zero, List.set_cons_succ])
      refine wpAnyH_loadC (i := 1) 24 _ ((w.heap.size + 1)) 0 [.string nm, .int .i64 (x : Int)] _ rfl rfl rfl rfl (Eq.refl true) Try.underlying24 rfl (by rw [infoEnt]; rfl) (by kernel_rfl) (by kernel_rfl) (by kernel_rfl) (fun _ _ _ h => h) (fun w' h' => h'.1) hS_0 ?_
      (try simp only [Act.put, List.setIfInBounds_toArray, List.set_cons_zero, List.set_cons_succ])
      refine wpAnyH_ready (rs := [2]) (by kernel_rfl) (by simp) (AllReadyH.cons rfl (fun K hK => ?_) AllReadyH.nil)
      go_simp
      go_wp2_with (go_at_call 20; refine (HM.out _).mono ?_; rintro e w5 ⟨rfl, b5⟩)
      refine hK.out _ _ ?_ (fun hS_1 => ?_)
      · exact HSTEP.out _ _ hS_0 b5
      clear hK K
      refine takeR (i := 3) (v := .bool false) rfl rfl (by kernel_rfl) (by kernel_rfl) (by kernel_rfl) (fun _ _ _ h => h) (Or.inl ⟨Eq.refl true, fun w1 hSw => ?_⟩) hS_1 ?_
      · first | rfl | (clear hSw; go_simp; done) | (clear hSw; go_simp; rfl)
      (try simp only [Act.put, List.setIfInBounds_toArray, List.set_cons_zero, List.set_cons_succ])
      refine takeR (i := 4) (v := undef) rfl rfl (by kernel_rfl) (by kernel_rfl) (by kernel_rfl) (fun _ _ _ h => h) (Or.inr ⟨Eq.refl false, rfl⟩) hS_1 ?_
      (try simp only [Act.put, List.setIfInBounds_toArray, List.set_cons_zero, List.set_cons_succ])
      refine takeR (i := 5) (v := undef) rfl rfl (by kernel_rfl) (by kernel_rfl) (by kernel_rfl) (fun _ _ _ h => h) (Or.inr ⟨Eq.refl false, rfl⟩) hS_1 ?_
      (try simp only [Act.put, List.setIfInBounds_toArray, List.set_cons_zero, List.set_cons_succ])
      refine takeR (i := 6) (v := undef) rfl rfl (by kernel_rfl) (by kernel_rfl) (by kernel_rfl) (fun _ _ _ h => h) (Or.inr ⟨Eq.refl false, rfl⟩) hS_1 ?_
      (try simp only [Act.put, List.setIfInBounds_toArray, List.set_cons_zero, List.set_cons_succ])
      refine takeR (i := 7) (v := undef) rfl rfl (by kernel_rfl) (by kernel_rfl) (by kernel_rfl) (fun _ _ _ h => h) (Or.inr ⟨Eq.refl false, rfl⟩) hS_1 ?_
      (try simp only [Act.put, List.setIfInBounds_toArray, List.set_cons_zero, List.set_cons_succ])
      refine takeR (i := 8) (v := .bool false) rfl rfl (by kernel_rfl) (by kernel_rfl) (by kernel_rfl) (fun _ _ _ h => h) (Or.inl ⟨Eq.refl true, fun w1 hSw => ?_⟩) hS_1 ?_
      · first | rfl | (clear hSw; go_simp; done) | (clear hSw; go_simp; rfl)
      (try simp only [Act.put, List.setIfInBounds_toArray, List.set_cons_zero, List.set_cons_succ])
      refine wpAnyH_ready (rs := [9]) (by kernel_rfl) (by simp) (AllReadyH.cons rfl (fun K hK => ?_) AllReadyH.nil)
      refine if_wanted (Eq.refl true) ?_
      obtain ⟨L2, hb2, hl2⟩ := hS_1.2.1; refine wpo_storeM 24 _ _ rfl w.heap.size 0 rfl [.string nm, .int .i64 (x : Int)] rfl (by rw [infoEnt]; rfl) (entC_one ⟨nm, x⟩) hb2 (by rw [hl2]; exact Nat.le_refl 2) ?_; intro w9 k9 g9; rw [splice_all (by rw [hl2]; rfl)] at k9; have K9 := hid k9; have G9 := hid g9
      refine hK.out _ _ ?_ (fun hS_2 => ?_)
      · exact ⟨HRG.out _ _ _ hS_1.1 g9, ⟨_, k9, rfl⟩, below_grown0 hS_1.2.2.1 g9 (Nat.le_refl _) hS_1.2.2.1.size, Nat.le_trans hS_1.2.2.2 g9.size⟩
      clear hK K
      refine takeR (i := 10) (v := .bool false) rfl rfl (by kernel_rfl) (by kernel_rfl) (by kernel_rfl) (fun _ _ _ h => h) (Or.inl ⟨Eq.refl true, fun w1 hSw => ?_⟩) hS_2 ?_
      · first | rfl | (clear hSw; go_simp; done) | (clear hSw; go_simp; rfl)
      (try simp only [Act.put, List.setIfInBounds_toArray, List.set_cons_zero, List.set_cons_succ])
      refine wpAnyH_done (by kernel_rfl) ?_ _
      go_wp2_with fail
      refine bodyPost_ret (results_ent rfl rfl K9.out) rfl ⟨nm, x, false, rfl, (fun h => by cases h), (fun _ => HD.out), hS_2.2.2.1⟩
    | true =>
      rw [hm] at HM
      have HPU := hid (HPU hm); have HE16 := hid (HE16 hm)
      by_cases hq : EB = bs
      · have HD : Hid (decR bs = some ⟨nm, x⟩) := hid (by rw [HDR.out, if_pos ⟨hm, hq⟩])
        have HEQ' := fun a c' w1 h1 h2 => HEQ a c' w1 h1 h2
        rw [decide_eq_true hq, HE16.out, hbs] at HEQ'
        have HEQ := hid HEQ'
        have HM := hid HM
        clear hm hq HEQ'
        refine wp_region_held_drew (S := fun w' => w'.rangeAt (w.heap.size + 1) 0 [.string nm, .int .i64 (x : Int)] ∧ (∃ L2, Blk w' w.heap.size 24 L2 ∧ L2.length = 2) ∧ Below w.heap.size w w' ∧ w.heap.size + 2 ≤ w'.heap.size) (by kernel_rfl) hS0 (fun hS_0 => ?_)
        refine wpAnyH_loadC (i := 0) 24 _ ((w.heap.size + 1)) 0 [.string nm, .int .i64 (x : Int)] _ rfl rfl rfl rfl (Eq.refl true) Try.underlying24 rfl (by rw [infoEnt]; rfl) (by kernel_rfl) (by kernel_rfl) (by kernel_rfl) (fun _ _ _ h => h) (fun w' h' => h'.1) hS_0 ?_
        (try simp only [Act.put, List.setIfInBounds_toArray, List.set_cons_zero, List.set_cons_succ])
        refine wpAnyH_loadC (i := 1) 24 _ ((w.heap.size + 1)) 0 [.string nm, .int .i64 (x : Int)] _ rfl rfl rfl rfl (Eq.refl true) Try.underlying24 rfl (by rw [infoEnt]; rfl) (by kernel_rfl) (by kernel_rfl) (by kernel_rfl) (fun _ _ _ h => h) (fun w' h' => h'.1) hS_0 ?_
        (try simp only [Act.put, List.setIfInBounds_toArray, List.set_cons_zero, List.set_cons_succ])
        refine wpAnyH_ready (rs := [2]) (by kernel_rfl) (by simp) (AllReadyH.cons rfl (fun K hK => ?_) AllReadyH.nil)
        go_simp
        go_wp2_with (go_at_call 20; refine (HM.out _).mono ?_; rintro e w5 ⟨rfl, b5⟩)
        refine hK.out _ _ ?_ (fun hS_1 => ?_)
        · exact HSTEP.out _ _ hS_0 b5
        clear hK K
        refine takeR (i := 3) (v := .bool true) rfl rfl (by kernel_rfl) (by kernel_rfl) (by kernel_rfl) (fun _ _ _ h => h) (Or.inl ⟨Eq.refl true, fun w1 hSw => ?_⟩) hS_1 ?_
        · first | rfl | (clear hSw; go_simp; done) | (clear hSw; go_simp; rfl)
        (try simp only [Act.put, List.setIfInBounds_toArray, List.set_cons_zero, List.set_cons_succ])
        refine wpAnyH_loadC (i := 4) 24 _ ((w.heap.size + 1)) 0 [.string nm, .int .i64 (x : Int)] _ rfl rfl rfl rfl (Eq.refl true) Try.underlying24 rfl (by rw [infoEnt]; rfl) (by kernel_rfl) (by kernel_rfl) (by kernel_rfl) (fun _ _ _ h => h) (fun w' h' => h'.1) hS_1 ?_
        (try simp only [Act.put, List.setIfInBounds_toArray, List.set_cons_zero, List.set_cons_succ])
        refine takeR (i := 6) (v := .slice (some ⟨b, off, none⟩) 16 c) rfl rfl (by kernel_rfl) (by kernel_rfl) (by kernel_rfl) (fun _ _ _ h => h) (Or.inl ⟨Eq.refl true, fun w1 hSw => ?_⟩) hS_1 ?_
        · first | rfl | (clear hSw; go_simp; done) | (clear hSw; go_simp; rfl)
        (try simp only [Act.put, List.setIfInBounds_toArray, List.set_cons_zero, List.set_cons_succ])
        refine wpAnyH_ready (rs := [5]) (by kernel_rfl) (by simp) (AllReadyH.cons rfl (fun K hK => ?_) AllReadyH.nil)
        go_simp
        go_wp2_with (go_at_call 37; refine (HPU.out _).mono ?_; rintro e w6 ⟨a6, c6, rfl, o6, b6⟩; rw [HE16.out])
        refine hK.out _ _ ?_ (fun hS_2 => ?_)
        · exact HSTEP.out _ _ hS_1 b6
        clear hK K
        refine wpAnyH_ready (rs := [7]) (by kernel_rfl) (by simp) (AllReadyH.cons rfl (fun K hK => ?_) AllReadyH.nil)
        go_simp
        go_wp2_with (go_at_call 47; refine (HEQ.out a6 c6 _ (by have := o6.row; exact this) ((HROW.out.mono hS_2.2.2.1))).mono ?_; rintro e w7 ⟨rfl, rfl⟩)
        refine hK.out _ _ ?_ (fun hS_3 => ?_)
        · exact hS_2
        clear hK K
        refine takeR (i := 8) (v := .bool true) rfl rfl (by kernel_rfl) (by kernel_rfl) (by kernel_rfl) (fun _ _ _ h => h) (Or.inl ⟨Eq.refl true, fun w1 hSw => ?_⟩) hS_3 ?_
        · first | rfl | (clear hSw; go_simp; done) | (clear hSw; go_simp; rfl)
        (try simp only [Act.put, List.setIfInBounds_toArray, List.set_cons_zero, List.set_cons_succ])
        refine wpAnyH_ready (rs := [9]) (by kernel_rfl) (by simp) (AllReadyH.cons rfl (fun K hK => ?_) AllReadyH.nil)
        refine if_wanted (Eq.refl true) ?_
        obtain ⟨L2, hb2, hl2⟩ := hS_3.2.1; refine wpo_storeM 24 _ _ rfl w.heap.size 0 rfl [.string nm, .int .i64 (x : Int)] rfl (by rw [infoEnt]; rfl) (entC_one ⟨nm, x⟩) hb2 (by rw [hl2]; exact Nat.le_refl 2) ?_; intro w9 k9 g9; rw [splice_all (by rw [hl2]; rfl)] at k9; have K9 := hid k9; have G9 := hid g9
        refine hK.out _ _ ?_ (fun hS_4 => ?_)
        · exact ⟨HRG.out _ _ _ hS_3.1 g9, ⟨_, k9, rfl⟩, below_grown0 hS_3.2.2.1 g9 (Nat.le_refl _) hS_3.2.2.1.size, Nat.le_trans hS_3.2.2.2 g9.size⟩
        clear hK K
        refine takeR (i := 10) (v := .bool true) rfl rfl (by kernel_rfl) (by kernel_rfl) (by kernel_rfl) (fun _ _ _ h => h) (Or.inl ⟨Eq.refl true, fun w1 hSw => ?_⟩) hS_4 ?_
        · first | rfl | (clear hSw; go_simp; done) | (clear hSw; go_simp; rfl)
        (try simp only [Act.put, List.setIfInBounds_toArray, List.set_cons_zero, List.set_cons_succ])
        refine wpAnyH_done (by kernel_rfl) ?_ _
        go_wp2_with fail
        refine bodyPost_ret (results_ent rfl rfl K9.out) rfl ⟨nm, x, true, rfl, fun _ => HD.out, (fun h => by cases h), hS_4.2.2.1⟩
      · have HD : Hid (decR bs = none) := hid (by rw [HDR.out, if_neg (fun q => hq q.2)])
        have HEQ' := fun a c' w1 h1 h2 => HEQ a c' w1 h1 h2
        rw [decide_eq_false hq, HE16.out, hbs] at HEQ'
        have HEQ := hid HEQ'
        have HM := hid HM
        clear hm hq HEQ'
        refine wp_region_held_drew (S := fun w' => w'.rangeAt (w.heap.size + 1) 0 [.string nm, .int .i64 (x : Int)] ∧ (∃ L2, Blk w' w.heap.size 24 L2 ∧ L2.length = 2) ∧ Below w.heap.size w w' ∧ w.heap.size + 2 ≤ w'.heap.size) (by kernel_rfl) hS0 (fun hS_0 => ?_)
        refine wpAnyH_loadC (i := 0) 24 _ ((w.heap.size + 1)) 0 [.string nm, .int .i64 (x : Int)] _ rfl rfl rfl rfl (Eq.refl true) Try.underlying24 rfl (by rw [infoEnt]; rfl) (by kernel_rfl) (by kernel_rfl) (by kernel_rfl) (fun _ _ _ h => h) (fun w' h' => h'.1) hS_0 ?_
        (try simp only [Act.put, List.setIfInBounds_toArray, List.set_cons_zero, List.set_cons_succ])
        refine wpAnyH_loadC (i := 1) 24 _ ((w.heap.size + 1)) 0 [.string nm, .int .i64 (x : Int)] _ rfl rfl rfl rfl (Eq.refl true) Try.underlying24 rfl (by rw [infoEnt]; rfl) (by kernel_rfl) (by kernel_rfl) (by kernel_rfl) (fun _ _ _ h => h) (fun w' h' => h'.1) hS_0 ?_
        (try simp only [Act.put, List.setIfInBounds_toArray, List.set_cons_zero, List.set_cons_succ])
        refine wpAnyH_ready (rs := [2]) (by kernel_rfl) (by simp) (AllReadyH.cons rfl (fun K hK => ?_) AllReadyH.nil)
        go_simp
        go_wp2_with (go_at_call 20; refine (HM.out _).mono ?_; rintro e w5 ⟨rfl, b5⟩)
        refine hK.out _ _ ?_ (fun hS_1 => ?_)
        · exact HSTEP.out _ _ hS_0 b5
        clear hK K
        refine takeR (i := 3) (v := .bool true) rfl rfl (by kernel_rfl) (by kernel_rfl) (by kernel_rfl) (fun _ _ _ h => h) (Or.inl ⟨Eq.refl true, fun w1 hSw => ?_⟩) hS_1 ?_
        · first | rfl | (clear hSw; go_simp; done) | (clear hSw; go_simp; rfl)
        (try simp only [Act.put, List.setIfInBounds_toArray, List.set_cons_zero, List.set_cons_succ])
        refine wpAnyH_loadC (i := 4) 24 _ ((w.heap.size + 1)) 0 [.string nm, .int .i64 (x : Int)] _ rfl rfl rfl rfl (Eq.refl true) Try.underlying24 rfl (by rw [infoEnt]; rfl) (by kernel_rfl) (by kernel_rfl) (by kernel_rfl) (fun _ _ _ h => h) (fun w' h' => h'.1) hS_1 ?_
        (try simp only [Act.put, List.setIfInBounds_toArray, List.set_cons_zero, List.set_cons_succ])
        refine takeR (i := 6) (v := .slice (some ⟨b, off, none⟩) 16 c) rfl rfl (by kernel_rfl) (by kernel_rfl) (by kernel_rfl) (fun _ _ _ h => h) (Or.inl ⟨Eq.refl true, fun w1 hSw => ?_⟩) hS_1 ?_
        · first | rfl | (clear hSw; go_simp; done) | (clear hSw; go_simp; rfl)
        (try simp only [Act.put, List.setIfInBounds_toArray, List.set_cons_zero, List.set_cons_succ])
        refine wpAnyH_ready (rs := [5]) (by kernel_rfl) (by simp) (AllReadyH.cons rfl (fun K hK => ?_) AllReadyH.nil)
        go_simp
        go_wp2_with (go_at_call 37; refine (HPU.out _).mono ?_; rintro e w6 ⟨a6, c6, rfl, o6, b6⟩; rw [HE16.out])
        refine hK.out _ _ ?_ (fun hS_2 => ?_)
        · exact HSTEP.out _ _ hS_1 b6
        clear hK K
        refine wpAnyH_ready (rs := [7]) (by kernel_rfl) (by simp) (AllReadyH.cons rfl (fun K hK => ?_) AllReadyH.nil)
        go_simp
        go_wp2_with (go_at_call 47; refine (HEQ.out a6 c6 _ (by have := o6.row; exact this) ((HROW.out.mono hS_2.2.2.1))).mono ?_; rintro e w7 ⟨rfl, rfl⟩)
        refine hK.out _ _ ?_ (fun hS_3 => ?_)
        · exact hS_2
        clear hK K
        refine takeR (i := 8) (v := .bool false) rfl rfl (by kernel_rfl) (by kernel_rfl) (by kernel_rfl) (fun _ _ _ h => h) (Or.inl ⟨Eq.refl true, fun w1 hSw => ?_⟩) hS_3 ?_
        · first | rfl | (clear hSw; go_simp; done) | (clear hSw; go_simp; rfl)
        (try simp only [Act.put, List.setIfInBounds_toArray, List.set_cons_zero, List.set_cons_succ])
        refine wpAnyH_ready (rs := [9]) (by kernel_rfl) (by simp) (AllReadyH.cons rfl (fun K hK => ?_) AllReadyH.nil)
        refine if_wanted (Eq.refl true) ?_
        obtain ⟨L2, hb2, hl2⟩ := hS_3.2.1; refine wpo_storeM 24 _ _ rfl w.heap.size 0 rfl [.string nm, .int .i64 (x : Int)] rfl (by rw [infoEnt]; rfl) (entC_one ⟨nm, x⟩) hb2 (by rw [hl2]; exact Nat.le_refl 2) ?_; intro w9 k9 g9; rw [splice_all (by rw [hl2]; rfl)] at k9; have K9 := hid k9; have G9 := hid g9
        refine hK.out _ _ ?_ (fun hS_4 => ?_)
        · exact ⟨HRG.out _ _ _ hS_3.1 g9, ⟨_, k9, rfl⟩, below_grown0 hS_3.2.2.1 g9 (Nat.le_refl _) hS_3.2.2.1.size, Nat.le_trans hS_3.2.2.2 g9.size⟩
        clear hK K
        refine takeR (i := 10) (v := .bool false) rfl rfl (by kernel_rfl) (by kernel_rfl) (by kernel_rfl) (fun _ _ _ h => h) (Or.inl ⟨Eq.refl true, fun w1 hSw => ?_⟩) hS_4 ?_
        · first | rfl | (clear hSw; go_simp; done) | (clear hSw; go_simp; rfl)
        (try simp only [Act.put, List.setIfInBounds_toArray, List.set_cons_zero, List.set_cons_succ])
        refine wpAnyH_done (by kernel_rfl) ?_ _
        go_wp2_with fail
        refine bodyPost_ret (results_ent rfl rfl K9.out) rfl ⟨nm, x, false, rfl, (fun h => by cases h), (fun _ => HD.out), hS_4.2.2.1⟩
  · have HD := hid (decR_bad (bs := bs) (by omega))
    have d1 : decide (14 < ((bAt bs 1 : Nat) : Int)) = true := decide_eq_true (by omega)
    generalize bAt bs 0 = x at *
    generalize bAt bs 1 = n at *
    go_enter Try.func38, Try.ntmps38
    go_wp2_with (go_at_call 46; fail)
    refine (HG0.out).mono ?_
    rintro e w1 ⟨rfl, rfl⟩
    go_wp2_with (go_at_call 46; fail)
    refine (HG1.out).mono ?_
    rintro e w1 ⟨rfl, rfl⟩
    go_wp2_with fail
    refine bodyPost_ret (results_ent rfl rfl K0.out) rfl ⟨_, _, false, rfl, (fun h => by cases h), (fun _ => HD.out), B0.out⟩
end Go.Proofs.Ytejfkjfidhdfaaa
