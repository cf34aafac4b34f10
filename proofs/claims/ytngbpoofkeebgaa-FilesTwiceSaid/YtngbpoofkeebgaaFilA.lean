/- The bytes of files, pure; resized, Change. -/
import Derived.Test.YtngbpoofkeebgaaClogR
import Derived.Test.YtngbpoofkeebgaaLibO
import Derived.Test.YtngbpoofkeebgaaLibC
import Derived.Test.YtngbpoofkeebgaaLibD
import Derived.Test.YtngbpoofkeebgaaFilRep
import Derived.Laws.Concat
import Derived.Laws.DeepStrings4
namespace Go.Proofs.Ytngbpoofkeebgaa
open Go.RowKit
set_option linter.unusedSimpArgs false
set_option linter.unusedVariables false
set_option maxRecDepth 100000

def fB (l : List UInt8) : ByteArray := ⟨l.toArray⟩
theorem fB_size (l : List UInt8) : (fB l).size = l.length := by simp [fB, ByteArray.size]
theorem fB_of (s : ByteArray) : ∃ l, s = fB l := ⟨s.data.toList, by cases s; simp [fB]⟩
theorem fB_inj {a b : List UInt8} (h : fB a = fB b) : a = b := by
  have := congrArg (fun x : ByteArray => x.data.toList) h
  simpa [fB] using this
theorem fB_app (a b : List UInt8) : fB a ++ fB b = fB (a ++ b) := ByteArray.mk_append_mk a b
theorem fB_ext (l : List UInt8) (i j : Nat) : (fB l).extract i j = fB ((l.take j).drop i) := by
  apply ByteArray.ext
  rw [ByteArray.data_extract]
  simp [fB, List.extract_eq_take_drop, List.drop_take]
theorem fB_take (l : List UInt8) (n : Nat) : (fB l).extract 0 n = fB (l.take n) := by rw [fB_ext]; rfl
theorem fB_drop (l : List UInt8) (n : Nat) : (fB l).extract n (fB l).size = fB (l.drop n) := by rw [fB_ext, fB_size, List.take_length]
theorem fB_nil : fB [] = ⟨#[]⟩ := rfl
theorem fB_ne {l : List UInt8} (h : l ≠ []) : ¬ fB l = ⟨#[]⟩ := fun e => h (fB_inj e)

/-- bytes that are cut, or extended by bytes 0 -/
def rzL (l : List UInt8) (n : Nat) : List UInt8 := l.take n ++ List.replicate (n - l.length) 0
theorem rzL_len (l : List UInt8) (n : Nat) : (rzL l n).length = n := by
  unfold rzL; rw [List.length_append, List.length_take, List.length_replicate]; omega
theorem rzL_cut {l : List UInt8} {n : Nat} (h : n ≤ l.length) : rzL l n = l.take n := by
  unfold rzL; rw [show n - l.length = 0 by omega]; simp
theorem rzL_ext {l : List UInt8} {n : Nat} (h : l.length ≤ n) : rzL l n = l ++ List.replicate (n - l.length) 0 := by
  unfold rzL; rw [List.take_of_length_le h]
/-- what a record makes of bytes -/
def chL (l : List UInt8) (t : Bool) (o : Nat) (d : List UInt8) : List UInt8 :=
  if t = true then rzL l o else if d = [] then l else rzL l o ++ d ++ l.drop (o + d.length)
theorem take_rz {l : List UInt8} {o m : Nat} (h : o ≤ m) (h2 : l.length ≤ m) : (rzL l m).take o = rzL l o := by
  rw [rzL_ext h2, List.take_append, List.take_replicate]
  unfold rzL
  rw [show min (o - l.length) (m - l.length) = o - l.length by omega]
theorem drop_rz {l : List UInt8} {k m : Nat} (hm : m = max k l.length) : (rzL l m).drop k = l.drop k := by
  subst hm
  rw [rzL_ext (by omega), List.drop_append, List.drop_replicate, show max k l.length - l.length - (k - l.length) = 0 by omega, List.replicate_zero, List.append_nil]
theorem repeat0 (k : Nat) : Lib.repeatL [0] k = List.replicate k 0 := by
  have := Lib.repeatL_replicate 0 1 k
  simpa using this
/-- k bytes 0 -/
theorem zeros_any (k : Nat) (hk : k ≤ 1000000) (w : World) : Calls Try.prog 13 #[.string ⟨#[0]⟩, .int .i64 (k : Int)] w fun e w' => e = .returned (.string (fB (List.replicate k 0))) ∧ Below w.heap.size w w' := by
  refine (strings_Repeat ⟨#[0]⟩ k w (by omega) (by show 1 * k ≤ _; omega)).mono fun e w' q => ?_
  obtain ⟨q1, q2⟩ := q
  have e : Lib.repeatL (ByteArray.mk #[0]).data.toList k = List.replicate k 0 := repeat0 k
  rw [e] at q1
  exact ⟨q1, q2⟩
set_option maxHeartbeats 2000000 in
theorem resized_short (l : List UInt8) (n : Nat) (h : n ≤ l.length) (hn : n ≤ 1000000) (hl : l.length ≤ 1000000) (w : World) :
    Calls Try.prog 11 #[.string (fB l), .int .i64 (n : Int)] w fun e w' => e = .returned (.string (fB (rzL l n))) ∧ Below w.heap.size w w' := by
  have hs := fB_size l
  rw [rzL_cut h, ← fB_take]
  obtain ⟨S, hS⟩ : ∃ S, S = fB l := ⟨_, rfl⟩
  rw [← hS] at hs ⊢
  have h0 : (n : Int) ≤ (S.size : Int) := by omega
  have h1 : 0 ≤ (n : Int) := by omega
  have d0 : decide ((n : Int) ≤ (S.size : Int)) = true := decide_eq_true h0
  clear h hS hs hl hn
  go_enter Try.func11, Try.ntmps11
  go_wp2
  go_ret
  exact ⟨by simp, Below.refl _ _⟩
end Go.Proofs.Ytngbpoofkeebgaa
