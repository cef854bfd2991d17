/-
  Threads and requests in a run, of one port.
-/
import Derived.Test.YtfjchchjdjjepaaFRead
namespace Go.Proofs.Ytfjchchjdjjepaa
open Go.RowKit
def thR (port o : Int) (a n : Nat) : List Wt := (List.range' a n).map fun (j : Nat) => ⟨port, o + (j : Int)⟩
def msR (port : Int) (a n : Nat) : List Ms := (List.range' a n).map fun (j : Nat) => msgI port (j : Int)
theorem thR_len (port o : Int) (a n : Nat) : (thR port o a n).length = n := by simp [thR]
theorem msR_len (port : Int) (a n : Nat) : (msR port a n).length = n := by simp [msR]
theorem thR_snoc (port o : Int) (n : Nat) : thR port o 0 (n + 1) = thR port o 0 n ++ [⟨port, o + (n : Int)⟩] := by
  unfold thR
  rw [List.range'_concat, List.map_append]
  simp
theorem msR_snoc (port : Int) (n : Nat) : msR port 0 (n + 1) = msR port 0 n ++ [msgI port (n : Int)] := by
  unfold msR
  rw [List.range'_concat, List.map_append]
  simp
theorem thR_cons (port o : Int) (a n : Nat) : thR port o a (n + 1) = ⟨port, o + (a : Int)⟩ :: thR port o (a + 1) n := by unfold thR; rw [List.range'_succ]; rfl
theorem msR_cons (port : Int) (a n : Nat) : msR port a (n + 1) = msgI port (a : Int) :: msR port (a + 1) n := by unfold msR; rw [List.range'_succ]; rfl
theorem thR_no (port o : Int) (n : Nat) (x : Int) (h : o + (n : Int) ≤ x) : waitsF (thR port o 0 n) x = false := by
  unfold waitsF thR
  rw [List.any_eq_false]
  intro y hy
  obtain ⟨j, hj, rfl⟩ := List.mem_map.1 hy
  have := (List.mem_range'_1.1 hj).2
  unfold isT
  simp only [beq_iff_eq]
  omega
theorem first_head {α : Type} (q : α → Bool) (z y : α) (L : List α) (h : q y = true) : First q z (y :: L) 0 := ⟨by simp, h, fun j hj => absurd hj (Nat.not_lt_zero _)⟩
theorem isP_self (x t : Int) : isP x ⟨x, t⟩ = true := by unfold isP; simp
theorem isTo_self (x t : Int) : isTo x (msgI x t) = true := by unfold isTo msgI; simp
end Go.Proofs.Ytfjchchjdjjepaa
