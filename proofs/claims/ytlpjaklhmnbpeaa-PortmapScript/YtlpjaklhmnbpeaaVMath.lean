/-
  Places of ports, in plain words: what is remembered, forgotten, found. Nothing here names the program.
-/
import Derived.Test.YtlpjaklhmnbpeaaABase
namespace Go.Proofs.Ytlpjaklhmnbpeaa
structure Pl where
  p : Int
  n : Int
  a : Int
  deriving DecidableEq
def Pl.zero : Pl := ⟨0, 0, 0⟩
def isP (x : Int) (y : Pl) : Bool := y.p == x
def isN (x : Int) (y : Pl) : Bool := y.n == x
def dropQ (q : Pl → Bool) (L : List Pl) : List Pl := L.filter fun y => !q y
def cutL (L : List Pl) : List Pl := if 16 ≤ L.length then L.drop 1 else L
def learnL (L : List Pl) (p n a : Int) : List Pl := cutL (dropQ (isP p) L) ++ [⟨p, n, a⟩]
def trust (age : Int) (y : Pl) (now : Int) : Bool := decide (y.a ≤ now) && decide (now - y.a < age)
def findP (L : List Pl) (x : Int) : Option Pl := L.find? (isP x)
def findV (age : Int) (L : List Pl) (x now : Int) : Option Int := match findP L x with
  | none => none
  | some y => if trust age y now then some y.n else none
def findI (age : Int) (L : List Pl) (x now : Int) : Int := (findV age L x now).getD 0
def findB (age : Int) (L : List Pl) (x now : Int) : Bool := (findV age L x now).isSome
theorem dropQ_len (q : Pl → Bool) (L : List Pl) : (dropQ q L).length ≤ L.length := List.length_filter_le _ _
theorem dropQ_append (q : Pl → Bool) (A B : List Pl) : dropQ q (A ++ B) = dropQ q A ++ dropQ q B := by unfold dropQ; simp
theorem cutL_len (L : List Pl) (h : L.length ≤ 16) : (cutL L).length ≤ 15 := by
  unfold cutL
  split
  · rw [List.length_drop]; omega
  · omega
theorem learn_len (L : List Pl) (p n a : Int) (h : L.length ≤ 16) : (learnL L p n a).length ≤ 16 := by
  have := cutL_len (dropQ (isP p) L) (Nat.le_trans (dropQ_len _ _) h)
  unfold learnL
  rw [List.length_append, List.length_singleton]; omega
theorem getV (L : List Pl) (j : Nat) (h : j < L.length) : L[j]? = some (L.getD j Pl.zero) := by
  rw [List.getD_eq_getElem?_getD, List.getElem?_eq_getElem h]; rfl
theorem getV_mem (L : List Pl) (j : Nat) (h : j < L.length) : L.getD j Pl.zero ∈ L := by
  rw [List.getD_eq_getElem?_getD, List.getElem?_eq_getElem h]; exact List.getElem_mem h
theorem takeV_snoc (L : List Pl) (k : Nat) (h : k < L.length) : L.take (k + 1) = L.take k ++ [L.getD k Pl.zero] := by
  rw [List.take_add_one, getV L k h]; rfl
theorem dropQ_snoc (q : Pl → Bool) (L : List Pl) (k : Nat) (h : k < L.length) : dropQ q (L.take (k + 1)) = dropQ q (L.take k) ++ (if q (L.getD k Pl.zero) then [] else [L.getD k Pl.zero]) := by
  rw [takeV_snoc L k h, dropQ_append]
  congr 1
  unfold dropQ
  by_cases e : q (L.getD k Pl.zero) = true
  · rw [if_pos e, List.filter_cons_of_neg (by rw [e]; decide)]; rfl
  · rw [if_neg e, List.filter_cons_of_pos (by simpa using e)]; rfl
theorem dropQ_same {q : Pl → Bool} {L : List Pl} (h : ∀ j, j < L.length → q (L.getD j Pl.zero) = true → False) : dropQ q L = L := by
  unfold dropQ
  rw [List.filter_eq_self]
  intro a ha
  obtain ⟨j, hj, rfl⟩ := List.mem_iff_getElem.1 ha
  have := h j hj
  rw [List.getD_eq_getElem?_getD, List.getElem?_eq_getElem hj, Option.getD_some] at this
  cases e : q L[j]
  · rfl
  · exact (this e).elim
theorem findP_none {L : List Pl} {x : Int} (h : ∀ j, j < L.length → isP x (L.getD j Pl.zero) = false) : findP L x = none := by
  unfold findP
  rw [List.find?_eq_none]
  intro y hy
  obtain ⟨j, hj, rfl⟩ := List.mem_iff_getElem.1 hy
  have := h j hj
  rw [List.getD_eq_getElem?_getD, List.getElem?_eq_getElem hj, Option.getD_some] at this
  rw [this]; decide
theorem findP_some {L : List Pl} {x : Int} {i : Nat} (hi : i < L.length) (h : isP x (L.getD i Pl.zero) = true) (h0 : ∀ j, j < i → isP x (L.getD j Pl.zero) = false) : findP L x = some (L.getD i Pl.zero) := by
  induction L generalizing i with
  | nil => simp at hi
  | cons y L ih =>
    unfold findP
    cases i with
    | zero =>
      have h' : isP x y = true := h
      rw [List.find?_cons_of_pos h']
      rfl
    | succ i =>
      have h' : isP x y = false := h0 0 (by omega)
      rw [List.find?_cons_of_neg (by rw [h']; decide)]
      exact ih (by simpa using hi) h (fun j hj => h0 (j + 1) (by omega))
theorem findV_none {age : Int} {L : List Pl} {x now : Int} (h : findP L x = none) : findV age L x now = none := by unfold findV; rw [h]
theorem findV_some {age : Int} {L : List Pl} {x now : Int} {y : Pl} (h : findP L x = some y) : findV age L x now = if trust age y now then some y.n else none := by unfold findV; rw [h]
end Go.Proofs.Ytlpjaklhmnbpeaa
