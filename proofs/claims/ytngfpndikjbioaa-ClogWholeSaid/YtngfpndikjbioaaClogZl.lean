import Derived.Test.YtngfpndikjbioaaClogZk
namespace Go.Proofs.Ytngfpndikjbioaa
open Go.RowKit Go.WideShapes
set_option linter.unusedSimpArgs false
set_option linter.unusedVariables false

def cutS (s : ByteArray) : ByteArray := if 80 < s.size then s.extract 0 80 else s
theorem cutS_size (s : ByteArray) : (cutS s).size ≤ 80 := by
  unfold cutS
  split
  · simp [ByteArray.size_extract]; omega
  · omega
set_option maxHeartbeats 1000000 in
theorem cutS_any (c i : Int) (t : Bool) (o : Int) (s : ByteArray) (w : World) :
    Calls Try.prog 9 #[recV c i t o s] w fun en w' => en = .returned (recV c i t o (cutS s)) ∧ Below w.heap.size w w' := by
  unfold recV
  by_cases h : 80 < s.size
  · have hc : cutS s = s.extract 0 80 := by unfold cutS; rw [if_pos h]
    rw [hc]
    clear hc
    go_enter Try.func9, Try.ntmps9
    go_wp2_with fail
    refine bodyPost_ret (results_rec rfl rfl (blk2 w _ _) rfl) rfl ⟨rfl, ((Below.refl _ w).alloc (Nat.le_refl _) _).alloc (by simp) _⟩
  · have hc : cutS s = s := by unfold cutS; rw [if_neg h]
    rw [hc]
    clear hc
    go_enter Try.func9, Try.ntmps9
    go_wp2_with fail
    refine bodyPost_ret (results_rec rfl rfl (blk2 w _ _) rfl) rfl ⟨rfl, ((Below.refl _ w).alloc (Nat.le_refl _) _).alloc (by simp) _⟩

def recB (r : RecT) : List UInt8 := recL r.c r.i r.t r.o r.s
def recOk (r : RecT) : Prop := recMay r.c r.i r.t r.o r.s = true ∧ r.s.size ≤ 80
/-- a record's bytes, whatever stands behind, are decoded as that record -/
theorem dec_recB {r : RecT} (hm : recMay r.c r.i r.t r.o r.s = true) (rest : List UInt8) : decE (recB r ++ rest) = 0 ∧ decT (recB r ++ rest) = r ∧ decN (recB r ++ rest) = (recB r).length := by
  obtain ⟨c, i, t, o, s⟩ := r
  have hm' : recMay c i t o s = true := hm
  obtain ⟨q1, _, q3, _, q5, _, _⟩ := recMay_iff hm'
  obtain ⟨C, rfl⟩ := Int.eq_ofNat_of_zero_le q1
  obtain ⟨I, rfl⟩ := Int.eq_ofNat_of_zero_le (by omega : 0 ≤ i)
  obtain ⟨O, rfl⟩ := Int.eq_ofNat_of_zero_le q5
  show decE (recL C I t O s ++ rest) = 0 ∧ decT (recL C I t O s ++ rest) = _ ∧ decN (recL C I t O s ++ rest) = (recL C I t O s).length
  obtain ⟨xs, hx⟩ : ∃ xs, xs = recL C I t O s ++ rest := ⟨_, rfl⟩
  rw [← hx]
  obtain ⟨f1, f2, f3, f4, f5, f6, f7, f8, f9, f10⟩ := dec_facts hm' hx
  have hZ : dZ xs = s.size := by
    have := getF_b1 (xs := xs) (a := 12) (by omega)
    rw [show getF xs ((12 : Nat) : Int) 1 = getF xs 12 1 from rfl, f1] at this
    simpa [dZ] using this.symm
  have hC : dC xs = C := by unfold dC; rw [f3]; rfl
  have hI : dI xs = I := by
    have := getF_b1 (xs := xs) (a := 8) (by omega)
    rw [show getF xs ((8 : Nat) : Int) 1 = getF xs 8 1 from rfl, f4] at this
    simpa [dI] using this.symm
  have hO : dO xs = O := by
    have := getF_b2 (xs := xs) (a := 10) (by omega)
    rw [show getF xs ((10 : Nat) : Int) 2 = getF xs 10 2 from rfl, f5] at this
    simpa [dO] using this.symm
  have hT : dT xs = t := by unfold dT; rw [f6]; cases t <;> rfl
  have hS : dS xs = s := by
    have : dS xs = ⟨(slx xs 13 (dZ xs)).toArray⟩ := rfl
    rw [this, hZ, show slx xs 13 s.size = s.data.toList from f7]
  have hL : dL xs = recL C I t O s := by unfold dL; rw [hC, hI, hT, hO, hS]
  have hmay : dMay xs = true := by unfold dMay; rw [hC, hI, hT, hO, hS]; exact hm'
  have hG : dGood xs = true := by
    unfold dGood dPre
    rw [hmay, hL, decide_eq_true f9, decide_eq_true f10]; rfl
  have h17 : 17 + dZ xs ≤ xs.length := by rw [hZ]; exact f8
  have hE : decE xs = 0 := by unfold decE; rw [if_pos h17, if_pos (by rw [hZ]; exact f2), if_pos hG]
  refine ⟨hE, ?_, ?_⟩
  · unfold decT; rw [if_pos hE, hC, hI, hT, hO, hS]
  · unfold decN; rw [if_pos hE, ← (of_dGood h17 hG).2.2.2.2.2, hL]
theorem recB_len {r : RecT} (h : recOk r) : (recB r).length % 8 = 0 ∧ (recB r).length ≤ 104 ∧ 17 ≤ (recB r).length := by
  have hd := dec_recB h.1 []
  rw [List.append_nil] at hd
  have hf := dec_ok_facts hd.1
  have hs : dZ (recB r) ≤ 80 := by
    have ht := hd.2.1
    unfold decT at ht
    rw [if_pos hd.1] at ht
    have h2 := h.2
    rw [← ht] at h2
    have h17 : 13 + dZ (recB r) ≤ (recB r).length := by
      have := hf.1; unfold dAll at this; omega
    rw [dS_size h17] at h2
    exact h2
  have hN := hf.1
  rw [hd.2.2] at hN
  unfold dAll at hN
  omega
/-- where each of some records begins, and where the last one ends -/
def offs : Nat → List RecT → List Nat
  | o, [] => [o]
  | o, r :: R => o :: offs (o + (recB r).length) R
theorem offs_length (o : Nat) (R : List RecT) : (offs o R).length = R.length + 1 := by
  induction R generalizing o with
  | nil => rfl
  | cons r R ih => simp [offs, ih]
theorem offs_snoc (o : Nat) (R : List RecT) (r : RecT) : offs o (R ++ [r]) = offs o R ++ [o + (R.flatMap recB).length + (recB r).length] := by
  induction R generalizing o with
  | nil => simp [offs]
  | cons x R ih => simp [offs, ih, List.length_append]; omega
/-- a scan of some records' bytes, from one of them on -/
theorem scanT_recs (R : List RecT) (hR : ∀ r ∈ R, recOk r) (pre : List UInt8) : scanT (pre ++ R.flatMap recB) pre.length = R.zip (offs pre.length R).tail := by
  induction R generalizing pre with
  | nil =>
    rw [scanT_bad]
    · rfl
    · simp [decE_nil]
  | cons r R ih =>
    have hd : (pre ++ (r :: R).flatMap recB).drop pre.length = recB r ++ R.flatMap recB := by simp
    obtain ⟨e1, e2, e3⟩ := dec_recB (hR r (by simp)).1 (R.flatMap recB)
    rw [scanT_good (by simp) (by rw [hd]; exact e1), hd, e2, e3]
    have := ih (fun x hx => hR x (by simp [hx])) (pre ++ recB r)
    rw [List.length_append] at this
    rw [List.flatMap_cons, ← List.append_assoc, this]
    have ht : (offs pre.length (r :: R)).tail = (pre.length + (recB r).length) :: (offs (pre.length + (recB r).length) R).tail := by
      cases R <;> rfl
    rw [ht]; rfl
theorem offs_drop (R : List RecT) (k o : Nat) (hk : k ≤ R.length) : (offs o R).drop k = offs (o + ((R.take k).flatMap recB).length) (R.drop k) := by
  induction R generalizing k o with
  | nil =>
    obtain rfl : k = 0 := by simpa using hk
    simp [offs]
  | cons r R ih =>
    cases k with
    | zero => simp
    | succ k =>
      have := ih k (o + (recB r).length) (by simpa using hk)
      simp only [offs, List.drop_succ_cons, List.take_succ_cons, List.flatMap_cons, List.length_append, this]
      rw [Nat.add_assoc]
theorem flat_bound (R : List RecT) (hR : ∀ r ∈ R, recOk r) : (R.flatMap recB).length % 8 = 0 ∧ (R.flatMap recB).length ≤ 104 * R.length := by
  induction R with
  | nil => simp
  | cons r R ih =>
    have h1 := ih (fun x hx => hR x (by simp [hx]))
    have h2 := recB_len (hR r (by simp))
    simp only [List.flatMap_cons, List.length_append, List.length_cons]
    omega
theorem head8_get (x : Nat) (hx : x ≤ 9223372036854775807) (ys : List UInt8) : getF (head8 x ++ ys) 0 8 = some x := by
  have hf : fitsB (x : Int) 8 = true := by unfold fitsB; simp
  have hh : head8 x = le 8 x := by
    unfold head8 putF
    rw [if_pos hf, if_neg (by simp [le_length])]; simp
  rw [hh]
  exact getF_mid (A := []) (B := ys) (p := 0) (k := 8) rfl rfl rfl (by omega) (by omega)
/-- what is scanned in a log of some records, from the k-th on -/
theorem scanF_recs (R : List RecT) (hR : ∀ r ∈ R, recOk r) (h9 : R.length ≤ 9) (p k : Nat) (hp : p ≤ 1073741824) (hk : k ≤ R.length) :
    scanF (logF ((4294967296 * p + (R.flatMap recB).length : Nat) : Int) (R.flatMap recB)) (p : Int) (((offs 0 R).getD k 0 : Nat) : Int) = (R.drop k).zip ((offs 0 R).drop (k + 1)) := by
  obtain ⟨b8, b104⟩ := flat_bound R hR
  obtain ⟨n, hn⟩ : ∃ n, n = (R.flatMap recB).length := ⟨_, rfl⟩
  rw [← hn] at b8 b104 ⊢
  have hx : 4294967296 * p + n ≤ 9223372036854775807 := by omega
  obtain ⟨xs, hxs⟩ : ∃ xs, xs = logF ((4294967296 * p + n : Nat) : Int) (R.flatMap recB) := ⟨_, rfl⟩
  rw [← hxs]
  have hlen : xs.length = 1024 := by rw [hxs]; exact logF_len _ _ (by omega)
  have hlog : xs = head8 ((4294967296 * p + n : Nat) : Int) ++ (R.flatMap recB ++ List.replicate (1016 - n) 0) := by
    rw [hxs]; unfold logF
    rw [List.take_of_length_le (by omega), ← hn, List.append_assoc]
  have hg : getF xs 0 8 = some (4294967296 * p + n) := by rw [hlog]; exact head8_get _ hx _
  have hC : dC xs = 4294967296 * p + n := by unfold dC; rw [hg]; rfl
  have hdr : (xs.drop 8).take n = R.flatMap recB := by
    rw [hlog, List.drop_left' (head8_len _ (by omega)), List.take_left' hn.symm]
  have hsplit : R.flatMap recB = (R.take k).flatMap recB ++ (R.drop k).flatMap recB := by
    rw [← List.flatMap_append, List.take_append_drop]
  have hoff : (offs 0 R).getD k 0 = ((R.take k).flatMap recB).length := by
    have := offs_drop R k 0 hk
    rw [Nat.zero_add] at this
    rw [List.getD_eq_getElem?_getD, ← List.head?_drop, this]
    cases R.drop k <;> rfl
  have hle : ((R.take k).flatMap recB).length ≤ n := by rw [hn, hsplit, List.length_append]; omega
  have hok : scanC xs (p : Int) (((offs 0 R).getD k 0 : Nat) : Int) := by
    refine ⟨hlen, by rw [hg]; rfl, ?_, ?_, by omega, ?_⟩
    · rw [okS_nat, hC]
      refine okE_t ⟨by omega, by omega, by omega, by omega, by omega⟩
    · rw [hC]; omega
    · rw [hC, hoff]; omega
  unfold scanF
  rw [if_pos hok, hC, show (4294967296 * p + n) % 4294967296 = n by omega, hdr, Int.toNat_natCast, hoff]
  have := scanT_recs (R.drop k) (fun r hr => hR r (List.mem_of_mem_drop hr)) ((R.take k).flatMap recB)
  rw [← hsplit] at this
  rw [this]
  have ho := offs_drop R k 0 hk
  rw [Nat.zero_add] at ho
  rw [← ho, List.tail_drop]
theorem scanF_other (x : Nat) (hx : x ≤ 9223372036854775807) (ys : List UInt8) (q hd : Int) (hq : ((x / 4294967296 : Nat) : Int) ≠ q) : scanF (logF (x : Int) ys) q hd = [] := by
  have hg : getF (logF (x : Int) ys) 0 8 = some x := by
    unfold logF; rw [List.append_assoc]; exact head8_get _ hx _
  have hC : dC (logF (x : Int) ys) = x := by unfold dC; rw [hg]; rfl
  unfold scanF
  rw [if_neg]
  rintro ⟨_, _, _, h4, _⟩
  rw [hC] at h4
  exact hq h4

end Go.Proofs.Ytngfpndikjbioaa
