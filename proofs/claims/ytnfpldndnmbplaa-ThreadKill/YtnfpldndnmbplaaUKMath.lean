/-
  Threads of processes, some of them blocked, as plain lists; what killing a process makes of them.
-/
import Derived.Test.YtnfpldndnmbplaaUMath
namespace Go.Proofs.Ytnfpldndnmbplaa
open Go.RowKit
def selN (P : Nat → Bool) (n : Nat) : List Int := ((List.range n).filter P).map fun j : Nat => (j : Int)
theorem selN_succ (P : Nat → Bool) (n : Nat) : selN P (n + 1) = selN P n ++ if P n then [(n : Int)] else [] := by
  unfold selN
  rw [List.range_succ, List.filter_append, List.map_append]
  congr 1
  cases h : P n <;> simp [h]
theorem selN_congr {P Q : Nat → Bool} (n : Nat) (h : ∀ j, j < n → P j = Q j) : selN P n = selN Q n := by
  induction n with
  | zero => rfl
  | succ n ih => rw [selN_succ, selN_succ, ih (fun j hj => h j (by omega)), h n (by omega)]
theorem selN_mem {P : Nat → Bool} {n : Nat} {x : Int} (h : x ∈ selN P n) : ∃ j : Nat, x = (j : Int) ∧ j < n ∧ P j = true := by
  unfold selN at h
  obtain ⟨j, hj, e⟩ := List.mem_map.1 h
  obtain ⟨h1, h2⟩ := List.mem_filter.1 hj
  exact ⟨j, e.symm, List.mem_range.1 h1, h2⟩
theorem selN_len (P : Nat → Bool) (n : Nat) : (selN P n).length ≤ n := by
  induction n with
  | zero => exact Nat.le_refl _
  | succ n ih => rw [selN_succ]; split <;> simp <;> omega
theorem selN_drop (P : Nat → Bool) (n i : Nat) : dropL (selN P n) (i : Int) = selN (fun j => P j && decide (j ≠ i)) n := by
  induction n with
  | zero => rfl
  | succ n ih =>
    rw [selN_succ, selN_succ, dropL_app, ih]
    congr 1
    by_cases hP : P n = true
    · rw [if_pos hP]
      by_cases e : n = i
      · subst e; simp [dropL]
      · rw [if_pos (by simp [hP, e])]
        refine dropL_none _ _ ?_
        simp; omega
    · rw [if_neg hP, if_neg (by simp [hP])]; rfl
def thK (pf : Nat → Int) (bf : Nat → Bool) (j : Nat) : Th := if bf j then ⟨pf j, 2, 7⟩ else ⟨pf j, 1, 0⟩
def kT (pf : Nat → Int) (bf : Nat → Bool) (n : Nat) : List Th := (List.range n).map (thK pf bf)
def kR (bf : Nat → Bool) (n : Nat) : List Int := selN (fun j => !bf j) n
variable {pf : Nat → Int} {bf : Nat → Bool}
theorem kT_len (n : Nat) : (kT pf bf n).length = n := by simp [kT]
theorem kT_get (n j : Nat) (h : j < n) : thd (kT pf bf n) j = thK pf bf j := by
  rw [thd_lt _ _ (by rw [kT_len]; exact h)]; simp [kT]
theorem kT_succ (n : Nat) : kT pf bf (n + 1) = kT pf bf n ++ [thK pf bf n] := by simp [kT, List.range_succ]
theorem kT_free (n : Nat) (h : bf n = false) : kT pf bf (n + 1) = kT pf bf n ++ [⟨pf n, 1, 0⟩] ∧ kR bf (n + 1) = kR bf n ++ [(n : Int)] := by
  refine ⟨by rw [kT_succ]; unfold thK; rw [h]; rfl, ?_⟩
  unfold kR; rw [selN_succ, h]; rfl
theorem kT_held (n : Nat) (h : bf n = true) : kT pf bf (n + 1) = setT (kT pf bf n ++ [⟨pf n, 1, 0⟩]) n 2 7 ∧ kR bf (n + 1) = turnR (kR bf n ++ [(n : Int)]) (n : Int) 2 := by
  refine ⟨?_, ?_⟩
  · rw [kT_succ]
    unfold setT
    rw [thd_snoc, if_pos (kT_len n).symm]
    have e : thK pf bf n = ⟨pf n, 2, 7⟩ := by unfold thK; rw [h]; rfl
    rw [e, List.set_append_right _ _ (by rw [kT_len]; exact Nat.le_refl _), kT_len, Nat.sub_self]; rfl
  · unfold turnR kR
    rw [if_neg (by decide), List.append_nil, dropL_app, selN_succ, h, selN_drop]
    simp only [Bool.not_true, Bool.false_eq_true, if_false, List.append_nil]
    rw [show dropL [(n : Int)] (n : Int) = [] by simp [dropL], List.append_nil]
    exact selN_congr n fun j hj => by simp; omega
theorem k_inv (n : Nat) (h : n ≤ 64) : Inv (kT pf bf n) (kR bf n) := by
  induction n with
  | zero => exact inv_nil
  | succ n ih =>
    have hs := (ih (by omega)).start (pf n) (by rw [kT_len]; omega)
    rw [kT_len] at hs
    cases hb : bf n with
    | false => rw [(kT_free (pf := pf) n hb).1, (kT_free (pf := pf) n hb).2]; exact hs
    | true =>
      rw [(kT_held (pf := pf) n hb).1, (kT_held (pf := pf) n hb).2]
      exact hs.turn n 2 7 (by simp [kT_len]) (.inr (.inl rfl)) (fun e => by cases e)
def dead (pf : Nat → Int) (p : Int) (i j : Nat) : Bool := decide (j < i) && decide (pf j = p)
theorem kill_is (p : Int) (n : Nat) : ∀ i, i ≤ n → (killN p (kT pf bf n) (kR bf n) i).2.2 = selN (fun j => decide (pf j = p)) i ∧ (killN p (kT pf bf n) (kR bf n) i).2.1 = selN (fun j => !bf j && !dead pf p i j) n ∧ ∀ j, j < n → thd (killN p (kT pf bf n) (kR bf n) i).1 j = if dead pf p i j then ⟨pf j, 3, 0⟩ else thK pf bf j := by
  intro i
  induction i with
  | zero =>
    intro _
    refine ⟨rfl, selN_congr n fun j _ => by simp [dead], fun j hj => ?_⟩
    show thd (kT pf bf n) j = _
    rw [kT_get n j hj]; simp [dead]
  | succ i ih =>
    intro hi
    obtain ⟨h1, h2, h3⟩ := ih (by omega)
    have hl := killN_len p (kT pf bf n) (kR bf n) i
    rw [kT_len] at hl
    have hd : dead pf p i i = false := by simp [dead]
    have hy : thd (killN p (kT pf bf n) (kR bf n) i).1 i = thK pf bf i := by rw [h3 i (by omega), hd]; rfl
    have hs : (thK pf bf i).s = 1 ∨ (thK pf bf i).s = 2 := by unfold thK; split; exact .inr rfl; exact .inl rfl
    have hp : (thK pf bf i).p = pf i := by unfold thK; split <;> rfl
    by_cases e : pf i = p
    · rw [killN_yes (by rw [hy, hp]; exact ⟨e, hs⟩)]
      refine ⟨?_, ?_, fun j hj => ?_⟩
      · simp only; rw [h1, selN_succ, if_pos (by simpa using e)]
      · simp only
        unfold turnR
        rw [if_neg (by decide), List.append_nil, h2, selN_drop]
        refine selN_congr n fun j _ => ?_
        by_cases ej : j = i
        · subst ej; simp [dead, e]
        · have : (decide (j < i + 1) : Bool) = decide (j < i) := by congr 1; exact propext ⟨fun _ => by omega, fun _ => by omega⟩
          simp [dead, this, ej]
      · simp only
        by_cases ej : j = i
        · subst ej
          rw [thd_same _ _ _ _ (by rw [hl]; exact hj), hy, hp, if_pos (by simp [dead, e])]
        · rw [thd_other _ _ _ _ _ ej, h3 j hj]
          have : dead pf p (i + 1) j = dead pf p i j := by
            unfold dead
            congr 1; congr 1; exact propext ⟨fun _ => by omega, fun _ => by omega⟩
          rw [this]
    · rw [killN_no (by rw [hy, hp]; exact fun h => e h.1)]
      have hdd : ∀ j, dead pf p (i + 1) j = dead pf p i j := fun j => by
        unfold dead
        by_cases ej : j = i
        · subst ej; simp [e]
        · congr 1; congr 1; exact propext ⟨fun _ => by omega, fun _ => by omega⟩
      refine ⟨?_, ?_, fun j hj => ?_⟩
      · rw [h1, selN_succ, if_neg (by simpa using e), List.append_nil]
      · rw [h2]; exact selN_congr n fun j _ => by rw [hdd]
      · rw [h3 j hj, hdd]
def wantK (pf : Nat → Int) (p : Int) (n : Nat) : List Int := selN (fun j => decide (pf j = p)) n
def restK (pf : Nat → Int) (bf : Nat → Bool) (p : Int) (n : Nat) : List Int := selN (fun j => !bf j && !decide (pf j = p)) n
theorem kill_all (p : Int) (n : Nat) (h : n ≤ 64) : (killN p (kT pf bf n) (kR bf n) 64).2.2 = wantK pf p n ∧ (killN p (kT pf bf n) (kR bf n) 64).2.1 = restK pf bf p n := by
  rw [killN_out _ _ _ _ (by rw [kT_len]; exact h), kT_len]
  obtain ⟨h1, h2, _⟩ := kill_is (pf := pf) (bf := bf) p n n (Nat.le_refl _)
  exact ⟨h1, h2.trans (selN_congr n fun j hj => by simp [dead, hj])⟩
/- where all of a process are dead, nothing is killed -/
theorem kill_none (p : Int) (T : List Th) (R : List Int) (h : ∀ j, (thd T j).p = p → ¬ ((thd T j).s = 1 ∨ (thd T j).s = 2)) : ∀ k, killN p T R k = (T, R, []) := by
  intro k
  induction k with
  | zero => rfl
  | succ k ih =>
    rw [killN_no, ih]
    rw [ih]
    exact fun hh => h k hh.1 hh.2
theorem kill_twice (p : Int) (n : Nat) (R : List Int) (h : n ≤ 64) : (killN p (killN p (kT pf bf n) (kR bf n) 64).1 R 64).2.2 = [] := by
  rw [kill_none]
  intro j e
  have e1 := e
  rw [killN_p] at e1
  rw [killN_out _ _ _ _ (by rw [kT_len]; exact h), kT_len] at e ⊢
  by_cases hj : j < n
  · obtain ⟨_, _, h3⟩ := kill_is (pf := pf) (bf := bf) p n n (Nat.le_refl _)
    rw [kT_get n j hj] at e1
    have hp : (thK pf bf j).p = pf j := by unfold thK; split <;> rfl
    rw [h3 j hj, if_pos (by simp [dead, hj]; rw [← hp]; exact e1)]
    rintro (x | x) <;> cases x
  · rw [thd_ge _ _ (by rw [killN_len, kT_len]; omega)]
    rintro (x | x) <;> cases x
theorem wantK_succ (p : Int) (n : Nat) : wantK pf p (n + 1) = wantK pf p n ++ if pf n = p then [(n : Int)] else [] := by
  unfold wantK; rw [selN_succ]; congr 1; by_cases e : pf n = p <;> simp [e]
theorem restK_succ (p : Int) (n : Nat) : restK pf bf p (n + 1) = restK pf bf p n ++ if pf n ≠ p ∧ bf n = false then [(n : Int)] else [] := by
  unfold restK; rw [selN_succ]; congr 1
  by_cases e : pf n = p <;> cases bf n <;> simp [e]
end Go.Proofs.Ytnfpldndnmbplaa
