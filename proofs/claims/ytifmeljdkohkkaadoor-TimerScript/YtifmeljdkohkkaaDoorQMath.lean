/-
  Queues as plain lists of numbers: what Push, Take and Drop answer.
-/
import Derived.Test.YtifmeljdkohkkaaDoorQLies
namespace Go.Proofs.YtifmeljdkohkkaaDoor
open Go.RowKit
def pushE (L : List Int) (x : Int) : Int := if x ∈ L then 11 else if 64 ≤ L.length then 5 else 0
def pushL (L : List Int) (x : Int) : List Int := if pushE L x = 0 then L ++ [x] else []
def placeF (p : Int) (n : Nat) : Nat := (p % (n : Int)).toNat
def takeX (L : List Int) (p : Int) : Int := L.getD (placeF p L.length) 0
def takeL (L : List Int) (p : Int) : List Int := L.take (placeF p L.length) ++ L.drop (placeF p L.length + 1)
def takeE (L : List Int) : Int := if L.length = 0 then 12 else 0
def dropL (L : List Int) (x : Int) : List Int := L.filter (fun y => decide (y ≠ x))
theorem placeF_lt (p : Int) (n : Nat) (h : 0 < n) : placeF p n < n := by
  unfold placeF
  have h1 := Int.emod_nonneg p (show (n : Int) ≠ 0 by omega)
  have h2 := Int.emod_lt_of_pos p (show (0 : Int) < (n : Int) by omega)
  omega
theorem placeF_is (p : Int) (n : Nat) (h : 0 < n) : ((placeF p n : Nat) : Int) = p % (n : Int) := by
  unfold placeF
  have h1 := Int.emod_nonneg p (show (n : Int) ≠ 0 by omega)
  omega
theorem takeI_snoc (xs : List Int) (k : Nat) (h : k < xs.length) : xs.take (k + 1) = xs.take k ++ [xs.getD k 0] := by
  rw [List.take_add_one, List.getElem?_eq_getElem h, List.getD_eq_getElem?_getD, List.getElem?_eq_getElem h]; rfl
theorem getI (xs : List Int) (k : Nat) (h : k < xs.length) : xs[k]? = some (xs.getD k 0) := by
  rw [List.getD_eq_getElem?_getD, List.getElem?_eq_getElem h]; rfl
theorem listI_ext {a b : List Int} (hl : a.length = b.length) (h : ∀ j, j < a.length → a.getD j 0 = b.getD j 0) : a = b := by
  apply List.ext_getElem? ; intro j
  by_cases hj : j < a.length
  · rw [getI a j hj, getI b j (by omega), h j hj]
  · rw [List.getElem?_eq_none (by omega), List.getElem?_eq_none (by omega)]
theorem takeL_len (L : List Int) (p : Int) (h : 0 < L.length) : (takeL L p).length + 1 = L.length := by
  unfold takeL
  have := placeF_lt p L.length h
  simp; omega
theorem dropL_len (L : List Int) (x : Int) : (dropL L x).length ≤ L.length := List.length_filter_le _ _
theorem dropL_not (L : List Int) (x : Int) : x ∉ dropL L x := by simp [dropL]
theorem dropL_snoc (L : List Int) (x : Int) (k : Nat) (h : k < L.length) : dropL (L.take (k + 1)) x = dropL (L.take k) x ++ if L.getD k 0 = x then [] else [L.getD k 0] := by
  rw [takeI_snoc L k h]
  unfold dropL
  rw [List.filter_append]
  congr 1
  by_cases e : L.getD k 0 = x
  · rw [if_pos e]; simp only [List.filter_cons, List.filter_nil]; rw [if_neg (by simpa using e)]
  · rw [if_neg e]; simp only [List.filter_cons, List.filter_nil]; rw [if_pos (by simpa using e)]
theorem pushE_zero {L : List Int} {x : Int} (h1 : x ∉ L) (h2 : L.length < 64) : pushE L x = 0 := by unfold pushE; rw [if_neg h1, if_neg (by omega)]
theorem pushL_zero {L : List Int} {x : Int} (h : pushE L x = 0) : pushL L x = L ++ [x] := by unfold pushL; rw [if_pos h]
theorem pushL_err {L : List Int} {x : Int} (h : pushE L x ≠ 0) : pushL L x = [] := by unfold pushL; rw [if_neg h]
end Go.Proofs.YtifmeljdkohkkaaDoor
