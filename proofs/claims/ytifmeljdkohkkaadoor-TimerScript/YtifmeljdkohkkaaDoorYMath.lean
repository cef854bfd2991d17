/-
  Alarms, in plain words: who is set, who rings, who is left. Nothing here names the program.
-/
import Derived.Test.YtifmeljdkohkkaaDoorQMath
namespace Go.Proofs.YtifmeljdkohkkaaDoor
structure Al where
  i : Int
  t : Int
  deriving DecidableEq
def Al.zero : Al := ⟨0, 0⟩
def dropA (L : List Al) (x : Int) : List Al := L.filter fun a => !(a.i == x)
def setE (L : List Al) (x k : Int) : Int := if k < 1 ∨ 1000000 < k then 4 else if 64 ≤ (dropA L x).length then 5 else 0
def setL (L : List Al) (now x k : Int) : List Al := if setE L x k = 0 then dropA L x ++ [⟨x, now + k⟩] else L
def ringF (L : List Al) (t : Int) : List Int := (L.filter fun a => a.t == t).map Al.i
def restF (L : List Al) (t : Int) : List Al := L.filter fun a => !(a.t == t)
def findA (L : List Al) (x : Int) : Option Al := L.find? fun a => a.i == x
theorem dropA_len (L : List Al) (x : Int) : (dropA L x).length ≤ L.length := List.length_filter_le _ _
theorem dropA_append (A B : List Al) (x : Int) : dropA (A ++ B) x = dropA A x ++ dropA B x := by unfold dropA; simp
theorem getA (L : List Al) (j : Nat) (h : j < L.length) : L[j]? = some (L.getD j Al.zero) := by
  rw [List.getD_eq_getElem?_getD, List.getElem?_eq_getElem h]; rfl
theorem getA_mem (L : List Al) (j : Nat) (h : j < L.length) : L.getD j Al.zero ∈ L := by
  rw [List.getD_eq_getElem?_getD, List.getElem?_eq_getElem h]; exact List.getElem_mem h
theorem takeA_snoc (L : List Al) (k : Nat) (h : k < L.length) : L.take (k + 1) = L.take k ++ [L.getD k Al.zero] := by
  rw [List.take_add_one, getA L k h]; rfl
theorem dropA_snoc (L : List Al) (k : Nat) (x : Int) (h : k < L.length) : dropA (L.take (k + 1)) x = dropA (L.take k) x ++ (if (L.getD k Al.zero).i == x then [] else [L.getD k Al.zero]) := by
  rw [takeA_snoc L k h, dropA_append]
  congr 1
  unfold dropA
  by_cases e : ((L.getD k Al.zero).i == x) = true
  · rw [if_pos e, List.filter_cons_of_neg (by rw [e]; decide)]; rfl
  · rw [if_neg e, List.filter_cons_of_pos (by simpa using e)]; rfl
theorem dropA_same {L : List Al} {x : Int} (h : ∀ j, j < L.length → (L.getD j Al.zero).i == x → False) : dropA L x = L := by
  unfold dropA
  rw [List.filter_eq_self]
  intro a ha
  obtain ⟨j, hj, rfl⟩ := List.mem_iff_getElem.1 ha
  have := h j hj
  rw [List.getD_eq_getElem?_getD, List.getElem?_eq_getElem hj, Option.getD_some] at this
  cases e : (L[j].i == x)
  · rfl
  · exact (this e).elim
theorem findA_none {L : List Al} {x : Int} (h : ∀ j, j < L.length → ((L.getD j Al.zero).i == x) = false) : findA L x = none := by
  unfold findA
  rw [List.find?_eq_none]
  intro y hy
  obtain ⟨j, hj, rfl⟩ := List.mem_iff_getElem.1 hy
  have := h j hj
  rw [List.getD_eq_getElem?_getD, List.getElem?_eq_getElem hj, Option.getD_some] at this
  rw [this]; decide
theorem findA_some {L : List Al} {x : Int} {i : Nat} (hi : i < L.length) (h : ((L.getD i Al.zero).i == x) = true) (h0 : ∀ j, j < i → ((L.getD j Al.zero).i == x) = false) : findA L x = some (L.getD i Al.zero) := by
  induction L generalizing i with
  | nil => simp at hi
  | cons y L ih =>
    unfold findA
    cases i with
    | zero =>
      have h' : (y.i == x) = true := h
      rw [List.find?_cons_of_pos (p := fun a : Al => a.i == x) h']
      rfl
    | succ i =>
      have h' : (y.i == x) = false := h0 0 (by omega)
      rw [List.find?_cons_of_neg (p := fun a : Al => a.i == x) (by rw [h']; decide)]
      exact ih (by simpa using hi) h (fun j hj => h0 (j + 1) (by omega))
theorem setE_arg {L : List Al} {x k : Int} (h : k < 1 ∨ 1000000 < k) : setE L x k = 4 := if_pos h
theorem setE_full {L : List Al} {x k : Int} (h : ¬ (k < 1 ∨ 1000000 < k)) (h2 : 64 ≤ (dropA L x).length) : setE L x k = 5 := by unfold setE; rw [if_neg h, if_pos h2]
theorem setE_ok {L : List Al} {x k : Int} (h : ¬ (k < 1 ∨ 1000000 < k)) (h2 : ¬ 64 ≤ (dropA L x).length) : setE L x k = 0 := by unfold setE; rw [if_neg h, if_neg h2]
theorem setL_err {L : List Al} {now x k : Int} (h : setE L x k ≠ 0) : setL L now x k = L := if_neg h
theorem setL_ok {L : List Al} {now x k : Int} (h : setE L x k = 0) : setL L now x k = dropA L x ++ [⟨x, now + k⟩] := if_pos h
theorem ringF_snoc (L : List Al) (k : Nat) (t : Int) (h : k < L.length) : ringF (L.take (k + 1)) t = ringF (L.take k) t ++ (if (L.getD k Al.zero).t == t then [(L.getD k Al.zero).i] else []) := by
  rw [takeA_snoc L k h]
  unfold ringF
  rw [List.filter_append, List.map_append]
  congr 1
  by_cases e : ((L.getD k Al.zero).t == t) = true
  · rw [if_pos e, List.filter_cons_of_pos (by exact e)]; rfl
  · rw [if_neg e, List.filter_cons_of_neg (by exact e)]; rfl
theorem restF_snoc (L : List Al) (k : Nat) (t : Int) (h : k < L.length) : restF (L.take (k + 1)) t = restF (L.take k) t ++ (if (L.getD k Al.zero).t == t then [] else [L.getD k Al.zero]) := by
  rw [takeA_snoc L k h]
  unfold restF
  rw [List.filter_append]
  congr 1
  by_cases e : ((L.getD k Al.zero).t == t) = true
  · rw [if_pos e, List.filter_cons_of_neg (by rw [e]; decide)]; rfl
  · rw [if_neg e, List.filter_cons_of_pos (by simpa using e)]; rfl
theorem ring_rest (L : List Al) (t : Int) : (ringF L t).length + (restF L t).length = L.length := by
  induction L with
  | nil => rfl
  | cons a L ih =>
    unfold ringF restF at *
    cases e : (a.t == t)
    · rw [List.filter_cons_of_neg (by simp [e]), List.filter_cons_of_pos (by simp [e])]; simp only [List.length_cons]; omega
    · rw [List.filter_cons_of_pos (by simp [e]), List.filter_cons_of_neg (by simp [e])]; simp only [List.length_cons, List.map_cons]; omega
theorem rest_len (L : List Al) (t : Int) : (restF L t).length ≤ L.length := List.length_filter_le _ _
theorem ring_len (L : List Al) (t : Int) : (ringF L t).length ≤ L.length := by have := ring_rest L t; omega
end Go.Proofs.YtifmeljdkohkkaaDoor
