/-
  What api.Number answers, and the statements' Alike, as contracts: of no error, and of ErrTape.
-/
import Derived.Test.YtgcmompldcnhlaaDoorHNumber
namespace Go.Proofs.YtgcmompldcnhlaaDoor
open Go.RowKit
theorem below_one {w w1 : World} (h : Below w.heap.size w w1) {w2 : World} (k : Below w1.heap.size w1 w2) : Below w.heap.size w w2 := h.trans (k.mono h.size)
theorem Glob.grow {B : Nat} {w w' : World} (h : Glob w) (b : Below B w w') (hB : 0 < B) : Glob w' := by
  unfold Glob at *; rw [b.cell (show 0 < B from hB), h]
theorem Glob.lt {w : World} (h : Glob w) : 0 < w.heap.size := lt_of_cell h
set_option maxHeartbeats 800000 in
theorem as_nil (t : Value) (w : World) :
    Calls Tryd.prog 40 #[.nilIface, t] w fun ev w' => ev = .returned (.bool false) ∧ w' = w := by
  go_enter Tryd.func40, Tryd.ntmps40
  go_wp2
  go_ret
  exact ⟨rfl, rfl⟩
set_option maxHeartbeats 800000 in
theorem number_nil (w : World) :
    Calls Tryd.prog 21 #[.nilIface] w fun e w' => e = .returned (.int .i64 0) ∧ Below w.heap.size w w' := by
  go_enter Tryd.func21, Tryd.ntmps21
  go_wp2_with fail
  refine (as_nil _ _).mono ?_; rintro e w1 ⟨rfl, rfl⟩
  go_wp2
  go_ret
  exact ⟨rfl, below_alloc _ _⟩
set_option maxHeartbeats 800000 in
theorem number_errno (a : Int) (w : World) (hg : Glob w) :
    Calls Tryd.prog 21 #[.iface 60 (.int .i64 a)] w fun e w' => e = .returned (.int .i64 a) ∧ Below w.heap.size w w' := by
  have HG : Hid (Glob (w.alloc (.cells #[.int .i64 0] 60))) := hg.carry (below_alloc _ _)
  clear hg
  go_enter Tryd.func21, Tryd.ntmps21
  go_wp2_with fail
  refine (as_hit a ⟨w.heap.size, 0, none⟩ (.int .i64 0) _ HG.out (by simp) (by simp)).mono ?_; rintro e w1 ⟨rfl, hw1⟩
  have hc : w1.cell? ⟨w.heap.size, 0, none⟩ = some (.int .i64 a) := by rw [hw1]; simp [go_sem]
  have b1 : Below w.heap.size w w1 := by rw [hw1]; go_grown
  clear hw1
  go_wp2
  go_ret
  exact ⟨rfl, b1⟩
end Go.Proofs.YtgcmompldcnhlaaDoor
