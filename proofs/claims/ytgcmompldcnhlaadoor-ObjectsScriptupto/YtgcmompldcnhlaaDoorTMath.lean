/-
  The plain part of a tape's search: words that are laid into scattered slots, and what is found in them; nothing of the program is named here.
-/
import Derived.Test.YtgcmompldcnhlaaDoorBMath
namespace Go.Proofs.YtgcmompldcnhlaaDoor

/- the slot at which the search for a word begins -/
def homeF (x m : Nat) : Nat := (mixF (x : Int) 0).toNat % m
theorem homeF_lt (x m : Nat) (h : 0 < m) : homeF x m < m := Nat.mod_lt _ h

/- the place of the first word that is like one ahead of it; the end, if none is -/
def Again (ws : List Nat) (k : Nat) : Prop :=
  k ≤ ws.length ∧ (∀ i j, i < j → j < k → ws.getD i 0 ≠ ws.getD j 0) ∧ (k < ws.length → ∃ i, i < k ∧ ws.getD i 0 = ws.getD k 0)

/- what the slots hold when k words have been laid: each at the first free slot behind its home -/
structure Tab (ws : List Nat) (m k : Nat) (S : List Nat) : Prop where
  len : S.length = m
  le : ∀ p, S.getD p 0 ≤ k
  free : S.count 0 + k = m
  apart : ∀ i j, i < j → j < k → ws.getD i 0 ≠ ws.getD j 0
  path : ∀ j, j < k → ∃ d, d < m ∧ S.getD ((homeF (ws.getD j 0) m + d) % m) 0 = j + 1 ∧ ∀ i, i < d → S.getD ((homeF (ws.getD j 0) m + i) % m) 0 ≠ 0

/- so many slots from the home on were looked at, and none is free nor holds the word x -/
def Probe (ws : List Nat) (m : Nat) (S : List Nat) (x d : Nat) : Prop :=
  ∀ i, i < d → S.getD ((homeF x m + i) % m) 0 ≠ 0 ∧ ws.getD (S.getD ((homeF x m + i) % m) 0 - 1) 0 ≠ x

theorem tab_zero (ws : List Nat) (m : Nat) : Tab ws m 0 (List.replicate m 0) := by
  refine ⟨by simp, fun p => ?_, by simp, fun i j _ h => by omega, fun j h => by omega⟩
  rw [List.getD_eq_getElem?_getD, List.getElem?_replicate]; split <;> simp

theorem getD_set_same (S : List Nat) (p v : Nat) (h : p < S.length) : (S.set p v).getD p 0 = v := by
  rw [List.getD_eq_getElem?_getD, List.getElem?_set_self h]; rfl
theorem getD_set_far (S : List Nat) (p q v : Nat) (h : p ≠ q) : (S.set p v).getD q 0 = S.getD q 0 := by
  rw [List.getD_eq_getElem?_getD, List.getElem?_set_ne h, List.getD_eq_getElem?_getD]

theorem tab_free {ws : List Nat} {m k : Nat} {S : List Nat} (T : Tab ws m k S) (hk : k < m) (h : Nat) (hh : h < m) : ∃ e, e < m ∧ S.getD ((h + e) % m) 0 = 0 := by
  have hp : 0 < S.count 0 := by have := T.free; omega
  obtain ⟨z, hz, ez⟩ := List.mem_iff_getElem.1 (List.count_pos_iff.1 hp)
  have hzm : z < m := by have := T.len; omega
  have ez' : S.getD z 0 = 0 := by rw [List.getD_eq_getElem?_getD, List.getElem?_eq_getElem hz, ez]; rfl
  by_cases hzh : h ≤ z
  · exact ⟨z - h, by omega, by rw [show h + (z - h) = z from by omega, Nat.mod_eq_of_lt hzm]; exact ez'⟩
  · exact ⟨z + m - h, by omega, by rw [show h + (z + m - h) = z + m from by omega, Nat.add_mod_right, Nat.mod_eq_of_lt hzm]; exact ez'⟩

theorem probe_le {ws : List Nat} {m : Nat} {S : List Nat} {x d e : Nat} (P : Probe ws m S x d) (he : S.getD ((homeF x m + e) % m) 0 = 0) : d ≤ e := by
  rcases Nat.lt_or_ge e d with h | h
  · exact absurd he (P e h).1
  · exact h

theorem probe_step {ws : List Nat} {m : Nat} {S : List Nat} {x d : Nat} (P : Probe ws m S x d) (h0 : S.getD ((homeF x m + d) % m) 0 ≠ 0) (h1 : ws.getD (S.getD ((homeF x m + d) % m) 0 - 1) 0 ≠ x) : Probe ws m S x (d + 1) := by
  intro i hi
  rcases Nat.lt_or_ge i d with h | h
  · exact P i h
  · obtain rfl : i = d := by omega
    exact ⟨h0, h1⟩

/- a free slot behind the home: the word is none of those ahead of it -/
theorem probe_new {ws : List Nat} {m k : Nat} {S : List Nat} {d : Nat} (T : Tab ws m k S) (P : Probe ws m S (ws.getD k 0) d) (h0 : S.getD ((homeF (ws.getD k 0) m + d) % m) 0 = 0) (j : Nat) (hj : j < k) : ws.getD j 0 ≠ ws.getD k 0 := by
  intro e
  obtain ⟨f, hf, h1, h2⟩ := T.path j hj
  rw [e] at h1 h2
  rcases Nat.lt_trichotomy f d with h | h | h
  · have := (P f h).2
    rw [h1] at this
    exact this (by simpa using e)
  · subst h; omega
  · exact h2 d h h0

theorem tab_step {ws : List Nat} {m k : Nat} {S : List Nat} {d : Nat} (T : Tab ws m k S) (hm : 0 < m) (hd : d < m) (P : Probe ws m S (ws.getD k 0) d) (h0 : S.getD ((homeF (ws.getD k 0) m + d) % m) 0 = 0) :
    Tab ws m (k + 1) (S.set ((homeF (ws.getD k 0) m + d) % m) (k + 1)) := by
  have hpm : (homeF (ws.getD k 0) m + d) % m < m := Nat.mod_lt _ hm
  have hnew := probe_new T P h0
  generalize hp : (homeF (ws.getD k 0) m + d) % m = p at hpm h0
  have hpl : p < S.length := by have := T.len; omega
  refine ⟨by simpa using T.len, fun q => ?_, ?_, fun i j hij hj => ?_, fun j hj => ?_⟩
  · by_cases hq : p = q
    · subst hq; rw [getD_set_same _ _ _ hpl]; exact Nat.le_refl _
    · rw [getD_set_far _ _ _ _ hq]; exact Nat.le_succ_of_le (T.le q)
  · have hz : S[p] = 0 := by
      rw [List.getD_eq_getElem?_getD, List.getElem?_eq_getElem hpl] at h0; exact h0
    have hc : (S.set p (k + 1)).count 0 = S.count 0 - 1 := by
      rw [List.count_set hpl, hz]; simp
    have hpos : 0 < S.count 0 := List.count_pos_iff.2 (by rw [← hz]; exact List.getElem_mem hpl)
    have := T.free
    omega
  · by_cases hjk : j < k
    · exact T.apart i j hij hjk
    · obtain rfl : j = k := by omega
      exact hnew i hij
  · by_cases hjk : j < k
    · obtain ⟨f, hf, h1, h2⟩ := T.path j hjk
      refine ⟨f, hf, ?_, fun i hi => ?_⟩
      · rw [getD_set_far]
        · exact h1
        · intro e; rw [← e, h0] at h1; omega
      · by_cases hq : p = (homeF (ws.getD j 0) m + i) % m
        · rw [← hq, getD_set_same _ _ _ hpl]; omega
        · rw [getD_set_far _ _ _ _ hq]; exact h2 i hi
    · obtain rfl : j = k := by omega
      refine ⟨d, hd, ?_, fun i hi => ?_⟩
      · rw [hp, getD_set_same _ _ _ hpl]
      · by_cases hq : p = (homeF (ws.getD j 0) m + i) % m
        · rw [← hq, getD_set_same _ _ _ hpl]; omega
        · rw [getD_set_far _ _ _ _ hq]; exact (P i hi).1

theorem again_all {ws : List Nat} {m : Nat} {S : List Nat} (T : Tab ws m ws.length S) : Again ws ws.length :=
  ⟨Nat.le_refl _, T.apart, fun h => by omega⟩
theorem again_at {ws : List Nat} {m k : Nat} {S : List Nat} (T : Tab ws m k S) (hk : k < ws.length) (p : Nat) (h0 : S.getD p 0 ≠ 0) (h1 : ws.getD (S.getD p 0 - 1) 0 = ws.getD k 0) : Again ws k :=
  ⟨Nat.le_of_lt hk, T.apart, fun _ => ⟨S.getD p 0 - 1, by have := T.le p; omega, h1⟩⟩
theorem next_at (h d m : Nat) : ((h + d) % m + 1) % m = (h + (d + 1)) % m := by
  rw [Nat.mod_add_mod, Nat.add_assoc]
end Go.Proofs.YtgcmompldcnhlaaDoor
