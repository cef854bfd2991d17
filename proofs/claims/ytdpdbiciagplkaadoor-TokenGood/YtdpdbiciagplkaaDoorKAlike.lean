/-
  What api.Number answers, and the statements' Alike, as contracts: of no error, and of ErrTape.
-/
import Derived.Test.YtdpdbiciagplkaaDoorHNumber
namespace Go.Proofs.YtdpdbiciagplkaaDoor
open Go.RowKit
theorem below_one {w w1 : World} (h : Below w.heap.size w w1) {w2 : World} (k : Below w1.heap.size w1 w2) : Below w.heap.size w w2 := h.trans (k.mono h.size)
theorem Glob.grow {B : Nat} {w w' : World} (h : Glob w) (b : Below B w w') (hB : 0 < B) : Glob w' := by
  unfold Glob at *; rw [b.cell (show 0 < B from hB), h]
theorem Glob.lt {w : World} (h : Glob w) : 0 < w.heap.size := lt_of_cell h
set_option maxHeartbeats 800000 in
theorem as_nil (t : Value) (w : World) :
    Calls Tryd.prog 28 #[.nilIface, t] w fun ev w' => ev = .returned (.bool false) ∧ w' = w := by
  go_enter Tryd.func28, Tryd.ntmps28
  go_wp2
  go_ret
  exact ⟨rfl, rfl⟩
set_option maxHeartbeats 800000 in
theorem number_nil (w : World) :
    Calls Tryd.prog 22 #[.nilIface] w fun e w' => e = .returned (.int .i64 0) ∧ Below w.heap.size w w' := by
  go_enter Tryd.func22, Tryd.ntmps22
  go_wp2_with fail
  refine (as_nil _ _).mono ?_; rintro e w1 ⟨rfl, rfl⟩
  go_wp2
  go_ret
  exact ⟨rfl, below_alloc _ _⟩
set_option maxHeartbeats 800000 in
theorem number_errno (a : Int) (w : World) (hg : Glob w) :
    Calls Tryd.prog 22 #[.iface 48 (.int .i64 a)] w fun e w' => e = .returned (.int .i64 a) ∧ Below w.heap.size w w' := by
  have HG : Hid (Glob (w.alloc (.cells #[.int .i64 0] 48))) := hg.carry (below_alloc _ _)
  clear hg
  go_enter Tryd.func22, Tryd.ntmps22
  go_wp2_with fail
  refine (as_hit a ⟨w.heap.size, 0, none⟩ (.int .i64 0) _ HG.out (by simp) (by simp)).mono ?_; rintro e w1 ⟨rfl, hw1⟩
  have hc : w1.cell? ⟨w.heap.size, 0, none⟩ = some (.int .i64 a) := by rw [hw1]; simp [go_sem]
  have b1 : Below w.heap.size w w1 := by rw [hw1]; go_grown
  clear hw1
  go_wp2
  go_ret
  exact ⟨rfl, b1⟩
set_option maxHeartbeats 1600000 in
theorem alike_nil (w : World) :
    Calls Tryd.prog 12 #[.nilIface, .nilIface] w fun e w' => e = .returned (.bool true) ∧ Below w.heap.size w w' := by
  have bb : Below w.heap.size w w.drew := below_drewN (Below.refl _ _) 1
  go_enter Tryd.func12, Tryd.ntmps12
  go_wp2_with fail
  go_region_held (fun _ => True) (trivial) (first | (go_at_call 22; refine (number_nil _).mono ?_; rintro e wx ⟨rfl, belx⟩; have bb := below_one bb belx))
  all_goals (go_wp2; go_ret; exact ⟨rfl, bb⟩)
set_option maxHeartbeats 1600000 in
theorem alike_errno (a : Int) (w : World) (hg : Glob w) :
    Calls Tryd.prog 12 #[.iface 48 (.int .i64 a), .iface 48 (.int .i64 a)] w fun e w' => e = .returned (.bool true) ∧ Below w.heap.size w w' := by
  have bb : Below w.heap.size w w.drew := below_drewN (Below.refl _ _) 1
  have hS : Hid (Glob w.drew) := hg
  clear hg
  go_enter Tryd.func12, Tryd.ntmps12
  go_wp2_with fail
  go_region_held (fun _ => True) (trivial) (first | (go_at_call 22; refine (number_errno a _ hS.out).mono ?_; rintro e wx ⟨rfl, belx⟩; have bb := below_one bb belx; have hS := hide (hS.out.carry belx)))
  all_goals (go_wp2; go_ret; exact ⟨rfl, bb⟩)
theorem alike_any (ok : Bool) (w : World) (hg : Glob w) :
    Calls Tryd.prog 12 #[erV ok, erV ok] w fun e w' => e = .returned (.bool true) ∧ Below w.heap.size w w' := by
  cases ok
  · exact alike_errno 7 w hg
  · exact alike_nil w
end Go.Proofs.YtdpdbiciagplkaaDoor
