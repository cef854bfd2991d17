/-
  A line of numbers in steps: what locking makes of it, and unlocking from its head on.
-/
import Derived.Test.YtgbggdmpbbhkaaaDoorXAwake
namespace Go.Proofs.YtgbggdmpbbhkaaaDoor
open Go.RowKit
def stepL (s : Int) (k : Nat) : List Int := (List.range k).map (fun j : Nat => s * (j : Int))
theorem stepL_len (s : Int) (k : Nat) : (stepL s k).length = k := by simp [stepL]
theorem stepL_succ (s : Int) (k : Nat) : stepL s (k + 1) = stepL s k ++ [s * (k : Int)] := by simp [stepL, List.range_succ]
theorem stepL_get (s : Int) (k j : Nat) (h : j < k) : (stepL s k).getD j 0 = s * (j : Int) := by
  rw [List.getD_eq_getElem?_getD]; simp [stepL, h]
theorem stepL_not (s : Int) (k : Nat) (hs : 0 < s) : s * (k : Int) ∉ stepL s k := by
  unfold stepL
  intro h
  obtain ⟨j, hj, e⟩ := List.mem_map.1 h
  have h1 := List.mem_range.1 hj
  have h2 := Int.eq_of_mul_eq_mul_left (by omega) e
  omega
theorem stepL_lock (s : Int) (k : Nat) (hs : 0 < s) (hk : k < 65) : lockE (stepL s k) (s * (k : Int)) = 0 :=
  lockE_zero (Int.mul_nonneg (by omega) (by omega)) (stepL_not s k hs) (by rw [stepL_len]; exact hk)
theorem stepL_put (s : Int) (k : Nat) (hs : 0 < s) (hk : k < 65) : lockL (stepL s k) (s * (k : Int)) = stepL s (k + 1) := by
  unfold lockL; rw [if_pos (stepL_lock s k hs hk), stepL_succ]
theorem stepL_row (s : Int) (k : Nat) (hs : 0 < s) (hk : k ≤ 65) : Row (stepL s k) := by
  induction k with
  | zero => exact row_nil
  | succ k ih =>
    rw [← stepL_put s k hs (by omega)]
    exact (ih (by omega)).locked _
theorem drop_hold (L : List Int) (i : Nat) (h : i < L.length) : holdF (L.drop i) = L.getD i 0 := by
  rw [holdF_get _ (by rw [List.length_drop]; omega), List.getD_eq_getElem?_getD, List.getElem?_drop, List.getD_eq_getElem?_getD]; rfl
theorem Row.sub {L M : List Int} (h : Row L) (hs : M.Sublist L) : Row M := ⟨Nat.le_trans hs.length_le h.few, hs.nodup h.nd, fun x hx => h.pos x (hs.subset hx)⟩
theorem drop_row {L : List Int} (h : Row L) (i : Nat) : Row (L.drop i) := h.sub (List.drop_sublist i L)
theorem drop_free {L : List Int} (h : Row L) (i : Nat) (hi : i < L.length) : freeE (L.drop i) (L.getD i 0) = 0 := by
  unfold freeE
  have hm : L.getD i 0 ∈ L := by rw [List.getD_eq_getElem?_getD, List.getElem?_eq_getElem hi]; exact List.getElem_mem hi
  rw [if_neg]
  rintro (e | e)
  · have := h.pos _ hm; omega
  · exact e (drop_hold L i hi)
theorem drop_next {L : List Int} (h : Row L) (i : Nat) (hi : i < L.length) : freeL (L.drop i) (L.getD i 0) = L.drop (i + 1) := by
  unfold freeL; rw [if_pos (drop_free h i hi), List.drop_drop]
end Go.Proofs.YtgbggdmpbbhkaaaDoor
