/-
  Threads as plain lists: what a table of them holds, and what each deed makes of it.
-/
import Derived.Test.YtnfpldndnmbplaaDoorQMath
namespace Go.Proofs.YtnfpldndnmbplaaDoor
open Go.RowKit
structure Th where
  p : Int
  s : Int
  u : Int
def Th.zero : Th := ⟨0, 0, 0⟩
def thd (T : List Th) (j : Nat) : Th := T.getD j Th.zero
def getF (T : List Th) (id : Int) : Th := if 0 ≤ id then thd T id.toNat else Th.zero
def setT (T : List Th) (k : Nat) (s u : Int) : List Th := T.set k ⟨(thd T k).p, s, u⟩
def turnR (R : List Int) (k s : Int) : List Int := dropL R k ++ if s = 1 then [k] else []
theorem thd_lt (T : List Th) (j : Nat) (h : j < T.length) : thd T j = T[j] := by
  unfold thd; rw [List.getD_eq_getElem?_getD, List.getElem?_eq_getElem h]; rfl
theorem thd_ge (T : List Th) (j : Nat) (h : T.length ≤ j) : thd T j = Th.zero := by
  unfold thd; rw [List.getD_eq_getElem?_getD, List.getElem?_eq_none h]; rfl
theorem getF_nat (T : List Th) (k : Nat) : getF T (k : Int) = thd T k := by unfold getF; rw [if_pos (by omega)]; rfl
theorem getF_neg (T : List Th) (id : Int) (h : id < 0) : getF T id = Th.zero := by unfold getF; rw [if_neg (by omega)]
theorem setT_len (T : List Th) (k : Nat) (s u : Int) : (setT T k s u).length = T.length := by unfold setT; simp
theorem thd_same (T : List Th) (k : Nat) (s u : Int) (h : k < T.length) : thd (setT T k s u) k = ⟨(thd T k).p, s, u⟩ := by
  rw [thd_lt _ _ (by rw [setT_len]; exact h)]; unfold setT; simp
theorem thd_other (T : List Th) (k j : Nat) (s u : Int) (h : j ≠ k) : thd (setT T k s u) j = thd T j := by
  unfold setT thd; rw [List.getD_eq_getElem?_getD, List.getElem?_set_ne (fun e => h e.symm), List.getD_eq_getElem?_getD]
theorem thd_p (T : List Th) (k j : Nat) (s u : Int) : (thd (setT T k s u) j).p = (thd T j).p := by
  by_cases h : j = k
  · subst h
    by_cases hl : j < T.length
    · rw [thd_same T j s u hl]
    · rw [thd_ge _ _ (by rw [setT_len]; omega), thd_ge _ _ (by omega)]
  · rw [thd_other T k j s u h]
theorem thd_snoc (T : List Th) (x : Th) (j : Nat) : thd (T ++ [x]) j = if j = T.length then x else thd T j := by
  unfold thd
  rw [List.getD_eq_getElem?_getD, List.getElem?_append]
  by_cases h : j < T.length
  · rw [if_pos h, if_neg (by omega), List.getD_eq_getElem?_getD]
  · rw [if_neg h]
    by_cases e : j = T.length
    · rw [if_pos e, e]; simp
    · rw [if_neg e, List.getElem?_eq_none (by simp; omega), List.getD_eq_getElem?_getD, List.getElem?_eq_none (by omega)]
theorem dropL_none (R : List Int) (k : Int) (h : k ∉ R) : dropL R k = R := by
  unfold dropL
  rw [List.filter_eq_self]
  intro a ha
  simp only [ne_eq, decide_not, Bool.not_eq_true', decide_eq_false_iff_not]
  intro e; exact h (e ▸ ha)
theorem mem_dropL (R : List Int) (k x : Int) : x ∈ dropL R k ↔ x ∈ R ∧ x ≠ k := by
  unfold dropL; rw [List.mem_filter]; simp
theorem dropL_nodup (R : List Int) (k : Int) (h : R.Nodup) : (dropL R k).Nodup := h.filter _
theorem dropL_app (A B : List Int) (k : Int) : dropL (A ++ B) k = dropL A k ++ dropL B k := by unfold dropL; rw [List.filter_append]
/- of numbers that are each once, one that is taken out at its place is dropped -/
theorem drop_at (R : List Int) (i : Nat) (hn : R.Nodup) (h : i < R.length) : R.take i ++ R.drop (i + 1) = dropL R (R.getD i 0) := by
  have e : R.getD i 0 = R[i] := by rw [List.getD_eq_getElem?_getD, List.getElem?_eq_getElem h]; rfl
  rw [e]
  have hs : R = R.take i ++ (R[i] :: R.drop (i + 1)) := by rw [List.getElem_cons_drop, List.take_append_drop]
  have hp := hs ▸ hn
  obtain ⟨x, hx⟩ : ∃ x, R[i] = x := ⟨_, rfl⟩
  obtain ⟨A, hA⟩ : ∃ A, R.take i = A := ⟨_, rfl⟩
  obtain ⟨B, hB⟩ : ∃ B, R.drop (i + 1) = B := ⟨_, rfl⟩
  rw [hx, hA, hB] at hs
  rw [hA, hB, hx]
  rw [hs] at hn
  obtain ⟨_, h2, h3⟩ := List.nodup_append.1 hn
  have hxA : x ∉ A := fun hm => h3 x hm x (List.mem_cons_self ..) rfl
  have hxB : x ∉ B := (List.nodup_cons.1 h2).1
  rw [hs, dropL_app, dropL_none A x hxA]
  congr 1
  rw [show x :: B = [x] ++ B from rfl, dropL_app, dropL_none B x hxB]
  simp [dropL]
/- so many unlike numbers below n are at most n -/
theorem few_nodup (n : Nat) : ∀ L : List Int, L.Nodup → (∀ x ∈ L, ∃ j : Nat, x = (j : Int) ∧ j < n) → L.length ≤ n := by
  induction n with
  | zero =>
    intro L _ h
    cases L with
    | nil => exact Nat.le_refl _
    | cons x L => obtain ⟨j, _, hj⟩ := h x (List.mem_cons_self ..); omega
  | succ n ih =>
    intro L hn h
    have h1 := ih (dropL L (n : Int)) (dropL_nodup L _ hn) (fun x hx => by
      obtain ⟨hm, hne⟩ := (mem_dropL L _ x).1 hx
      obtain ⟨j, rfl, hj⟩ := h x hm
      exact ⟨j, rfl, by
        have : j ≠ n := fun e => hne (by rw [e])
        omega⟩)
    by_cases hm : (n : Int) ∈ L
    · obtain ⟨i, hi, e⟩ := List.mem_iff_getElem.1 hm
      have := drop_at L i hn hi
      have e2 : L.getD i 0 = (n : Int) := by rw [List.getD_eq_getElem?_getD, List.getElem?_eq_getElem hi]; exact e
      rw [e2] at this
      rw [← this] at h1
      simp at h1
      omega
    · rw [dropL_none L _ hm] at h1; omega
structure Inv (T : List Th) (R : List Int) : Prop where
  few : T.length ≤ 64
  nd : R.Nodup
  st : ∀ j, j < T.length → (thd T j).s = 1 ∨ (thd T j).s = 2 ∨ (thd T j).s = 3
  wt : ∀ j, j < T.length → (thd T j).s = 1 → (thd T j).u = 0
  rd : ∀ x ∈ R, ∃ j : Nat, x = (j : Int) ∧ j < T.length ∧ (thd T j).s = 1
theorem inv_nil : Inv [] [] := ⟨by simp, List.nodup_nil, fun j hj => by simp at hj, fun j hj => by simp at hj, fun x hx => by cases hx⟩
theorem Inv.len {T : List Th} {R : List Int} (h : Inv T R) : R.length ≤ T.length := few_nodup _ R h.nd fun x hx => by
  obtain ⟨j, e, hj, _⟩ := h.rd x hx; exact ⟨j, e, hj⟩
theorem Inv.not {T : List Th} {R : List Int} (h : Inv T R) (k : Nat) (hk : (thd T k).s ≠ 1) : (k : Int) ∉ R := fun hm => by
  obtain ⟨j, e, _, hj⟩ := h.rd _ hm
  obtain rfl : k = j := by omega
  exact hk hj
theorem Inv.room {T : List Th} {R : List Int} (h : Inv T R) (k : Nat) (hk : (thd T k).s ≠ 1) (hl : k < 64) : R.length < 64 := by
  have h1 := h.not k hk
  have h2 := few_nodup 64 (R ++ [(k : Int)]) (List.nodup_append.2 ⟨h.nd, by simp, fun a ha b hb e => by
    rw [List.mem_singleton.1 hb] at e; rw [e] at ha; exact h1 ha⟩) (fun x hx => by
    rcases List.mem_append.1 hx with hx | hx
    · obtain ⟨j, e, hj, _⟩ := h.rd x hx; exact ⟨j, e, by have := h.few; omega⟩
    · exact ⟨k, List.mem_singleton.1 hx, hl⟩)
  simp at h2; omega
theorem Inv.push {T : List Th} {R : List Int} (h : Inv T R) (k : Nat) (hk : (thd T k).s ≠ 1) (hl : k < 64) : pushE R (k : Int) = 0 ∧ pushL R (k : Int) = R ++ [(k : Int)] := by
  have h0 := pushE_zero (h.not k hk) (h.room k hk hl)
  exact ⟨h0, pushL_zero h0⟩
theorem Inv.turn {T : List Th} {R : List Int} (h : Inv T R) (k : Nat) (s u : Int) (hk : k < T.length) (hs : s = 1 ∨ s = 2 ∨ s = 3) (hu : s = 1 → u = 0) : Inv (setT T k s u) (turnR R (k : Int) s) := by
  refine ⟨by rw [setT_len]; exact h.few, ?_, fun j hj => ?_, fun j hj e => ?_, fun x hx => ?_⟩
  · unfold turnR
    refine List.nodup_append.2 ⟨dropL_nodup R _ h.nd, by split <;> simp, fun a ha b hb e => ?_⟩
    split at hb
    · rw [List.mem_singleton.1 hb] at e
      exact ((mem_dropL R _ a).1 ha).2 e
    · cases hb
  · rw [setT_len] at hj
    by_cases e : j = k
    · subst e; rw [thd_same T j s u hj]; exact hs
    · rw [thd_other T k j s u e]; exact h.st j hj
  · rw [setT_len] at hj
    by_cases e1 : j = k
    · subst e1; rw [thd_same T j s u hj] at e ⊢; exact hu e
    · rw [thd_other T k j s u e1] at e ⊢; exact h.wt j hj e
  · unfold turnR at hx
    rcases List.mem_append.1 hx with hx | hx
    · obtain ⟨hm, hne⟩ := (mem_dropL R _ x).1 hx
      obtain ⟨j, e, hj, h1⟩ := h.rd x hm
      exact ⟨j, e, by rw [setT_len]; exact hj, by rw [thd_other T k j s u (fun e2 => hne (by rw [e, e2]))]; exact h1⟩
    · split at hx
      · rename_i e1
        exact ⟨k, List.mem_singleton.1 hx, by rw [setT_len]; exact hk, by rw [thd_same T k s u hk]; exact e1⟩
      · cases hx
theorem Inv.start {T : List Th} {R : List Int} (h : Inv T R) (p : Int) (hl : T.length < 64) : Inv (T ++ [⟨p, 1, 0⟩]) (R ++ [(T.length : Int)]) := by
  have hz : (thd T T.length).s ≠ 1 := by rw [thd_ge T _ (Nat.le_refl _)]; decide
  refine ⟨by simp; omega, ?_, fun j hj => ?_, fun j hj e => ?_, fun x hx => ?_⟩
  · refine List.nodup_append.2 ⟨h.nd, by simp, fun a ha b hb e => ?_⟩
    rw [List.mem_singleton.1 hb] at e; rw [e] at ha; exact h.not _ hz ha
  · rw [thd_snoc]
    split
    · exact .inl rfl
    · exact h.st j (by simp at hj; omega)
  · rw [thd_snoc] at e ⊢
    split
    · rfl
    · rename_i hne
      rw [if_neg hne] at e
      exact h.wt j (by simp at hj; omega) e
  · rcases List.mem_append.1 hx with hx | hx
    · obtain ⟨j, e, hj, h1⟩ := h.rd x hx
      exact ⟨j, e, by simp; omega, by rw [thd_snoc, if_neg (by omega)]; exact h1⟩
    · exact ⟨T.length, List.mem_singleton.1 hx, by simp, by rw [thd_snoc, if_pos rfl]⟩
/- one that is picked: it is ready, and stays as it was -/
theorem Inv.pick {T : List Th} {R : List Int} (h : Inv T R) (q : Int) (h0 : 0 < R.length) : ∃ k : Nat, takeX R q = (k : Int) ∧ k < T.length ∧ (thd T k).s = 1 ∧ takeL R q = dropL R (k : Int) ∧ pushE (takeL R q) (k : Int) = 0 ∧ pushL (takeL R q) (k : Int) = turnR R (k : Int) 1 ∧ setT T k 1 0 = T := by
  have hp := placeF_lt q R.length h0
  have hm : takeX R q ∈ R := by
    unfold takeX
    rw [List.getD_eq_getElem?_getD, List.getElem?_eq_getElem hp]
    exact List.getElem_mem hp
  obtain ⟨k, e, hk, hs⟩ := h.rd _ hm
  have hd : takeL R q = dropL R (k : Int) := by
    rw [← e]; unfold takeL takeX; exact drop_at R _ h.nd hp
  have hE : pushE (takeL R q) (k : Int) = 0 := by
    rw [hd]
    refine pushE_zero (dropL_not R _) ?_
    rw [← hd]
    have := takeL_len R q h0
    have := h.len
    have := h.few
    omega
  refine ⟨k, e, hk, hs, hd, hE, ?_, ?_⟩
  · rw [pushL_zero hE, hd]; unfold turnR; rw [if_pos rfl]
  · have hu := h.wt k hk hs
    have e3 : (⟨(thd T k).p, 1, 0⟩ : Th) = T[k] := by
      rw [← thd_lt T k hk]
      cases hh : thd T k
      rw [hh] at hs hu
      simp only at hs hu
      rw [hs, hu]
    unfold setT
    rw [e3]; simp
/- all threads of a process are ended, one behind the other -/
def killN (p : Int) (T : List Th) (R : List Int) : Nat → List Th × List Int × List Int
  | 0 => (T, R, [])
  | k + 1 =>
    if (thd (killN p T R k).1 k).p = p ∧ ((thd (killN p T R k).1 k).s = 1 ∨ (thd (killN p T R k).1 k).s = 2) then (setT (killN p T R k).1 k 3 0, turnR (killN p T R k).2.1 (k : Int) 3, (killN p T R k).2.2 ++ [(k : Int)])
    else killN p T R k
theorem killN_yes {p : Int} {T : List Th} {R : List Int} {k : Nat} (h : (thd (killN p T R k).1 k).p = p ∧ ((thd (killN p T R k).1 k).s = 1 ∨ (thd (killN p T R k).1 k).s = 2)) : killN p T R (k + 1) = (setT (killN p T R k).1 k 3 0, turnR (killN p T R k).2.1 (k : Int) 3, (killN p T R k).2.2 ++ [(k : Int)]) := by
  rw [killN, if_pos h]
theorem killN_no {p : Int} {T : List Th} {R : List Int} {k : Nat} (h : ¬ ((thd (killN p T R k).1 k).p = p ∧ ((thd (killN p T R k).1 k).s = 1 ∨ (thd (killN p T R k).1 k).s = 2))) : killN p T R (k + 1) = killN p T R k := by
  rw [killN, if_neg h]
theorem killN_len (p : Int) (T : List Th) (R : List Int) (k : Nat) : (killN p T R k).1.length = T.length := by
  induction k with
  | zero => rfl
  | succ k ih => rw [killN]; split <;> simp [setT_len, ih]
theorem killN_p (p : Int) (T : List Th) (R : List Int) (k j : Nat) : (thd (killN p T R k).1 j).p = (thd T j).p := by
  induction k with
  | zero => rfl
  | succ k ih =>
    rw [killN]
    split
    · rw [thd_p]; exact ih
    · exact ih
theorem killN_out (p : Int) (T : List Th) (R : List Int) (k : Nat) (h : T.length ≤ k) : killN p T R k = killN p T R T.length := by
  induction k with
  | zero => obtain e : T.length = 0 := by omega
            rw [e]
  | succ k ih =>
    by_cases e : T.length = k + 1
    · rw [e]
    · have := ih (by omega)
      rw [killN_no, this]
      rw [thd_ge _ _ (by rw [killN_len]; omega)]
      rintro ⟨_, h | h⟩ <;> cases h
theorem Inv.kill {T : List Th} {R : List Int} (h : Inv T R) (p : Int) (k : Nat) : Inv (killN p T R k).1 (killN p T R k).2.1 := by
  induction k with
  | zero => exact h
  | succ k ih =>
    rw [killN]
    split
    · rename_i hh
      refine ih.turn k 3 0 ?_ (.inr (.inr rfl)) (fun e => by cases e)
      rcases Nat.lt_or_ge k (killN p T R k).1.length with hl | hl
      · exact hl
      · rw [thd_ge _ _ hl] at hh
        rcases hh.2 with hh | hh <;> cases hh
    · exact ih
theorem killN_few (p : Int) (T : List Th) (R : List Int) (k : Nat) : (killN p T R k).2.2.length ≤ k := by
  induction k with
  | zero => exact Nat.le_refl _
  | succ k ih =>
    rw [killN]
    split
    · simp; omega
    · omega
end Go.Proofs.YtnfpldndnmbplaaDoor
