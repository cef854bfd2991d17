/-
  One alarm alone: when it rings, and what is left.
-/
import Derived.Test.YtifmeljdkohkkaaDoorYAwake
namespace Go.Proofs.YtifmeljdkohkkaaDoor
open Go.RowKit
def onL (x n t : Int) : List Al := if t < n then [⟨x, n⟩] else []
theorem on_len (x n t : Int) : (onL x n t).length ≤ 1 := by
  unfold onL; split <;> simp
theorem on_yes {x n t : Int} (h : t < n) : onL x n t = [⟨x, n⟩] := if_pos h
theorem on_no {x n t : Int} (h : ¬ t < n) : onL x n t = [] := if_neg h
theorem on_ring (x n t : Int) : ringF (onL x n t) (t + 1) = if t + 1 = n then [x] else [] := by
  by_cases h : t < n
  · rw [on_yes h]
    unfold ringF
    by_cases e : t + 1 = n
    · rw [if_pos e, List.filter_cons_of_pos (by simp [e])]; rfl
    · rw [if_neg e, List.filter_cons_of_neg (by simp; omega)]; rfl
  · rw [on_no h, if_neg (by omega)]; rfl
theorem on_rest (x n t : Int) : restF (onL x n t) (t + 1) = onL x n (t + 1) := by
  by_cases h : t < n
  · rw [on_yes h]
    unfold restF
    by_cases e : t + 1 = n
    · rw [on_no (by omega), List.filter_cons_of_neg (by simp [e])]; rfl
    · rw [on_yes (by omega), List.filter_cons_of_pos (by simp; omega)]; rfl
  · rw [on_no h, on_no (by omega)]; rfl
theorem on_rng {x n t : Int} (hn : n - t ≤ 1000000) : ∀ a ∈ onL x n t, 0 ≤ a.t - t ∧ a.t - t ≤ 1000000 := by
  intro a ha
  by_cases h : t < n
  · rw [on_yes h] at ha
    obtain rfl := List.mem_singleton.1 ha
    exact ⟨by show 0 ≤ n - t; omega, hn⟩
  · rw [on_no h] at ha; cases ha
theorem on_leftI (x n t : Int) : leftI (onL x n t) t x = if t < n then n - t else 0 := by
  by_cases h : t < n
  · rw [on_yes h, if_pos h]; unfold leftI findA; simp
  · rw [on_no h, if_neg h]; rfl
theorem on_leftB (x n t : Int) : leftB (onL x n t) x = decide (t < n) := by
  by_cases h : t < n
  · rw [on_yes h, decide_eq_true h]; unfold leftB findA; simp
  · rw [on_no h, decide_eq_false h]; rfl
theorem on_set (x n t k : Int) (h1 : 1 ≤ k) (h2 : k ≤ 1000000) : setE (onL x n t) x k = 0 ∧ setL (onL x n t) t x k = onL x (t + k) t := by
  have hd : dropA (onL x n t) x = [] := by
    by_cases h : t < n
    · rw [on_yes h]; unfold dropA; simp
    · rw [on_no h]; rfl
  have hE : setE (onL x n t) x k = 0 := setE_ok (by omega) (by rw [hd]; decide)
  refine ⟨hE, ?_⟩
  rw [setL_ok hE, hd, on_yes (by omega)]; rfl
theorem on_nil (x n t : Int) (h : n ≤ t) : onL x n t = [] := on_no (by omega)
end Go.Proofs.YtifmeljdkohkkaaDoor
