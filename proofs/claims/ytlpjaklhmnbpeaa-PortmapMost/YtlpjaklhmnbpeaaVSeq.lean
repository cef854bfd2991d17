/-
  Places of ports that were learnt one behind the other: which are remembered, which are found. Nothing here names the program.
-/
import Derived.Test.YtlpjaklhmnbpeaaVMath
namespace Go.Proofs.Ytlpjaklhmnbpeaa
def mk (f : Nat → Int) (j : Nat) : Pl := ⟨(j : Int), f j, (j : Int)⟩
def seqV (f : Nat → Int) (s m : Nat) : List Pl := (List.range' s m).map (mk f)
theorem seqV_len (f : Nat → Int) (s m : Nat) : (seqV f s m).length = m := by unfold seqV; simp
theorem seqV_mem {f : Nat → Int} {s m : Nat} {y : Pl} (h : y ∈ seqV f s m) : ∃ j, s ≤ j ∧ j < s + m ∧ y = mk f j := by
  unfold seqV at h
  obtain ⟨j, hj, rfl⟩ := List.mem_map.1 h
  rw [List.mem_range'_1] at hj
  exact ⟨j, hj.1, hj.2, rfl⟩
theorem seqV_snoc (f : Nat → Int) (s m : Nat) : seqV f s (m + 1) = seqV f s m ++ [mk f (s + m)] := by
  unfold seqV
  rw [List.range'_1_concat, List.map_append]; rfl
theorem seqV_tail (f : Nat → Int) (s m : Nat) : (seqV f s (m + 1)).drop 1 = seqV f (s + 1) m := by
  unfold seqV
  rw [List.range'_succ]; rfl
theorem seqV_drop (f : Nat → Int) (s m : Nat) : dropQ (isP ((s + m : Nat) : Int)) (seqV f s m) = seqV f s m := by
  unfold dropQ
  rw [List.filter_eq_self]
  intro y hy
  obtain ⟨j, h1, h2, rfl⟩ := seqV_mem hy
  show (!(((j : Nat) : Int) == ((s + m : Nat) : Int))) = true
  have : ((((j : Nat) : Int) == ((s + m : Nat) : Int))) = false := by simp; omega
  rw [this]; rfl
theorem learn_few (f : Nat → Int) (s m : Nat) (h : m < 16) (x : Int) (hx : x = f (s + m)) (p a : Int) (hp : p = ((s + m : Nat) : Int)) (ha : a = ((s + m : Nat) : Int)) : learnL (seqV f s m) p x a = seqV f s (m + 1) := by
  subst hp; subst ha; subst hx
  unfold learnL cutL
  rw [seqV_drop, if_neg (by rw [seqV_len]; omega), seqV_snoc]; rfl
theorem learn_many (f : Nat → Int) (s : Nat) (x : Int) (hx : x = f (s + 16)) (p a : Int) (hp : p = ((s + 16 : Nat) : Int)) (ha : a = ((s + 16 : Nat) : Int)) : learnL (seqV f s 16) p x a = seqV f (s + 1) 16 := by
  subst hp; subst ha; subst hx
  unfold learnL cutL
  rw [seqV_drop, if_pos (by rw [seqV_len]; omega), seqV_tail, seqV_snoc f (s + 1) 15]
  show _ ++ [mk f (s + 16)] = _ ++ [mk f (s + 1 + 15)]
  rw [show s + 1 + 15 = s + 16 by omega]
theorem find_seq (f : Nat → Int) (q : Pl → Bool) (k : Nat) : ∀ m s, findP (dropQ q (seqV f s m)) (k : Int) = if s ≤ k ∧ k < s + m ∧ q (mk f k) = false then some (mk f k) else none := by
  intro m
  induction m with
  | zero =>
    intro s
    rw [if_neg (by omega)]; rfl
  | succ m ih =>
    intro s
    have e : seqV f s (m + 1) = mk f s :: seqV f (s + 1) m := by unfold seqV; rw [List.range'_succ]; rfl
    rw [e]
    have i := ih (s + 1)
    unfold findP dropQ at i ⊢
    by_cases hq : q (mk f s) = true
    · rw [List.filter_cons_of_neg (by rw [hq]; decide), i]
      by_cases hk : k = s
      · subst hk
        rw [if_neg (by omega), if_neg (by rw [hq]; simp)]
      · by_cases hc : s + 1 ≤ k ∧ k < s + 1 + m ∧ q (mk f k) = false
        · rw [if_pos hc, if_pos ⟨by omega, by omega, hc.2.2⟩]
        · rw [if_neg hc, if_neg (fun h => hc ⟨by omega, by omega, h.2.2⟩)]
    · have hq' : q (mk f s) = false := by simpa using hq
      rw [List.filter_cons_of_pos (by rw [hq']; rfl)]
      by_cases hk : k = s
      · subst hk
        rw [List.find?_cons_of_pos (by unfold isP mk; simp), if_pos ⟨by omega, by omega, hq'⟩]
      · rw [List.find?_cons_of_neg (by unfold isP mk; simp; omega), i]
        by_cases hc : s + 1 ≤ k ∧ k < s + 1 + m ∧ q (mk f k) = false
        · rw [if_pos hc, if_pos ⟨by omega, by omega, hc.2.2⟩]
        · rw [if_neg hc, if_neg (fun h => hc ⟨by omega, by omega, h.2.2⟩)]
theorem drop_none (L : List Pl) : dropQ (fun _ => false) L = L := by unfold dropQ; simp
theorem find_yes {age : Int} {L : List Pl} {x now : Int} {y : Pl} (h : findP L x = some y) (ht : trust age y now = true) : findI age L x now = y.n ∧ findB age L x now = true := by
  unfold findI findB
  rw [findV_some h, ht]; exact ⟨rfl, rfl⟩
theorem find_no {age : Int} {L : List Pl} {x now : Int} (h : findP L x = none) : findI age L x now = 0 ∧ findB age L x now = false := by
  unfold findI findB
  rw [findV_none h]; exact ⟨rfl, rfl⟩
end Go.Proofs.Ytlpjaklhmnbpeaa
