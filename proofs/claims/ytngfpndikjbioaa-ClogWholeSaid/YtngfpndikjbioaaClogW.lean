import Derived.Test.YtngfpndikjbioaaClogV
import Derived.Test.YtngfpndikjbioaaBytesA
namespace Go.Proofs.Ytngfpndikjbioaa
open Go.RowKit
set_option linter.unusedSimpArgs false
set_option linter.unusedVariables false

theorem ofLE_le16 (k n : Nat) (h : n < 256 ^ k) : ofLE (le k n) = n := by
  induction k generalizing n with
  | zero => simp [le, ofLE] at *; omega
  | succ k ih =>
    have h2 : n / 256 < 256 ^ k := by
      rw [Nat.div_lt_iff_lt_mul (by omega)]; rwa [Nat.pow_succ] at h
    simp [le, ofLE, ih _ h2]
    omega
/-- a number that stands amid bytes is got -/
theorem getF_mid {xs A B : List UInt8} {k v p : Nat} (hx : xs = A ++ (le k v ++ B)) (hp : A.length = p) (hk : widthB k = true) (hv : v < 256 ^ k) (h9 : v ≤ 9223372036854775807) : getF xs (p : Int) (k : Int) = some v := by
  subst hx hp
  have hd : (((A ++ (le k v ++ B)).drop (A.length : Int).toNat).take (k : Int).toNat) = le k v := by
    simp only [Int.toNat_natCast]
    rw [List.drop_left, List.take_left' (le_length k v)]
  unfold getF
  rw [if_pos ⟨hk, by omega, by simp [le_length]; omega⟩, hd, ofLE_le16 k v hv, if_pos h9]

def tB (t : Bool) : Nat := if t then 1 else 0
/-- the 13 bytes ahead of a record's data -/
def head13 (C I : Nat) (t : Bool) (O z : Nat) : List UInt8 := le 8 C ++ (le 1 I ++ (le 1 (tB t) ++ (le 2 O ++ le 1 z)))
theorem head13_length (C I : Nat) (t : Bool) (O z : Nat) : (head13 C I t O z).length = 13 := by simp [head13, le_length]
theorem recX_eq {C I O : Nat} {t : Bool} {s : ByteArray} (hm : recMay C I t O s = true) : recX C I t O s = head13 C I t O s.size ++ s.data.toList := by
  obtain ⟨_, hC, _, hI, _, hO, hz, _, _⟩ := recMay_iff hm
  have f1 : ∀ (l : List UInt8) (n : Nat), n < 256 → putF l (n : Int) 1 = l ++ le 1 n := fun l n hn => by
    have : fitsB (n : Int) 1 = true := by unfold fitsB; simp; omega
    unfold putF; rw [if_pos this]; simp
  have f2 : ∀ (l : List UInt8) (n : Nat), n < 65536 → putF l (n : Int) 2 = l ++ le 2 n := fun l n hn => by
    have : fitsB (n : Int) 2 = true := by unfold fitsB; simp; omega
    unfold putF; rw [if_pos this]; simp
  have f8 : ∀ (l : List UInt8) (n : Nat), putF l (n : Int) 8 = l ++ le 8 n := fun l n => by
    have : fitsB (n : Int) 8 = true := by unfold fitsB; simp
    unfold putF; rw [if_pos this]; simp
  have ht : ((if t = true then (1 : Int) else 0)) = ((tB t : Nat) : Int) := by cases t <;> rfl
  have htb : tB t < 256 := by cases t <;> decide
  have h : foldF [] (recF C I t O s.size) = head13 C I t O s.size := by
    simp only [foldF, recF, List.foldl_cons, List.foldl_nil]
    rw [ht, f8, f1 _ I (by omega), f1 _ _ htb, f2 _ O (by omega), f1 _ s.size (by omega)]
    simp [head13]
  unfold recX
  rw [h]
theorem recL_eq {C I O : Nat} {t : Bool} {s : ByteArray} (hm : recMay C I t O s = true) :
    ∃ Z, recL C I t O s = head13 C I t O s.size ++ (s.data.toList ++ (le 4 (crcF (head13 C I t O s.size ++ s.data.toList)) ++ Z)) := by
  have hx := recX_eq hm
  have hp : ∀ l : List UInt8, putF l (crcF l : Nat) 4 = l ++ le 4 (crcF l) := fun l => put_sum l
  unfold recL
  rw [if_pos hm]
  unfold padTo8 recY
  rw [hp, hx]
  exact ⟨_, by rw [List.append_assoc, List.append_assoc]⟩

/-- what is read off the bytes of a record, whatever stands behind -/
theorem dec_facts {C I O : Nat} {t : Bool} {s : ByteArray} {xs rest : List UInt8} (hm : recMay C I t O s = true) (hx : xs = recL C I t O s ++ rest) :
    getF xs 12 1 = some s.size ∧ getF xs ((13 + s.size : Nat) : Int) 4 = some (crcF (xs.take (13 + s.size))) ∧ getF xs 0 8 = some C ∧ getF xs 8 1 = some I ∧ getF xs 10 2 = some O ∧ bAt xs 9 = tB t ∧
      (xs.drop 13).take s.size = s.data.toList ∧ 17 + s.size ≤ xs.length ∧ (recL C I t O s).length ≤ xs.length ∧ xs.take (recL C I t O s).length = recL C I t O s := by
  obtain ⟨_, hC, _, hI, _, hO, hz, _, _⟩ := recMay_iff hm
  obtain ⟨Z, hL⟩ := recL_eq hm
  have hzl : s.data.toList.length = s.size := by simp
  have hpre : xs.take (recL C I t O s).length = recL C I t O s := by rw [hx, List.take_left']; rfl
  have hlen : (recL C I t O s).length ≤ xs.length := by rw [hx]; simp
  rw [hL] at hx
  generalize hcr : crcF (head13 C I t O s.size ++ s.data.toList) = cr at *
  have hcl : cr < 4294967296 := by rw [← hcr]; exact crcF_lt _
  have h13 := head13_length C I t O s.size
  have ex : xs = head13 C I t O s.size ++ (s.data.toList ++ (le 4 cr ++ (Z ++ rest))) := by rw [hx]; simp [List.append_assoc]
  have eh : xs = le 8 C ++ (le 1 I ++ (le 1 (tB t) ++ (le 2 O ++ (le 1 s.size ++ (s.data.toList ++ (le 4 cr ++ (Z ++ rest))))))) := by rw [ex]; simp [head13, List.append_assoc]
  have htk : xs.take (13 + s.size) = head13 C I t O s.size ++ s.data.toList := by
    rw [ex, ← List.append_assoc, List.take_left' (by rw [List.length_append, h13, hzl])]
  have htb : tB t < 256 := by cases t <;> decide
  refine ⟨?_, ?_, ?_, ?_, ?_, ?_, ?_, ?_, hlen, hpre⟩
  · exact getF_mid (A := le 8 C ++ (le 1 I ++ (le 1 (tB t) ++ le 2 O))) (B := s.data.toList ++ (le 4 cr ++ (Z ++ rest))) (p := 12) (k := 1) (by rw [eh]; simp [List.append_assoc]) (by simp [le_length]) rfl (by omega) (by omega)
  · rw [htk, hcr]
    exact getF_mid (A := head13 C I t O s.size ++ s.data.toList) (B := Z ++ rest) (k := 4) (by rw [ex]; simp [List.append_assoc]) (by rw [List.length_append, h13, hzl]) rfl (by omega) (by omega)
  · exact getF_mid (A := []) (p := 0) (k := 8) (by rw [eh]; rfl) rfl rfl (by omega) (by omega)
  · exact getF_mid (A := le 8 C) (p := 8) (k := 1) eh (by simp [le_length]) rfl (by omega) (by omega)
  · exact getF_mid (A := le 8 C ++ (le 1 I ++ le 1 (tB t))) (B := le 1 s.size ++ (s.data.toList ++ (le 4 cr ++ (Z ++ rest)))) (p := 10) (k := 2) (by rw [eh]; simp [List.append_assoc]) (by simp [le_length]) rfl (by omega) (by omega)
  · have e9 : xs = (le 8 C ++ le 1 I) ++ (le 1 (tB t) ++ (le 2 O ++ (le 1 s.size ++ (s.data.toList ++ (le 4 cr ++ (Z ++ rest)))))) := by rw [eh]; simp [List.append_assoc]
    unfold bAt
    rw [e9, List.getD_eq_getElem?_getD, List.getElem?_append_right (by simp [le_length])]
    simp [le_length, le]
    omega
  · rw [ex, List.drop_left' h13, List.take_left' hzl]
  · rw [ex]; simp [h13, le_length]; omega

end Go.Proofs.Ytngfpndikjbioaa
