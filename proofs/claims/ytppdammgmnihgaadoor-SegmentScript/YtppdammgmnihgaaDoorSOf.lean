/-
  What segment.Of answers, as a contract: a store without segments; what became of the world.
-/
import Derived.Test.YtppdammgmnihgaaDoorSWrite
namespace Go.Proofs.YtppdammgmnihgaaDoor
open Go.RowKit
variable {w w' : World} {B st m a b n : Nat} {gl : List Bool} {bs : List UInt8} {c : Cel} {sg : Nat → Option Cel} {L : Nat → Option (List UInt8)}
theorem new_box (m : Nat) : Tryd.zeroCells58.setIfInBounds 0 (.pointer (some ⟨m, 0, none⟩)) = boxS m (fun _ => none) := by rfl
set_option maxRecDepth 20000 in
set_option maxHeartbeats 1600000 in
theorem sof_any (z : Int) (w : World) (n : Nat) (hn : clampF z = n) (hz : -9223372036854775808 ≤ z ∧ z ≤ 9223372036854775807) :
    Calls Tryd.prog 8 #[.int .i64 z] w fun e w' => ∃ st, e = .returned (.pointer (some ⟨st, 0, none⟩)) ∧ St w' w.heap.size st n (fun _ => none) ∧ Below w.heap.size w w' := by
  have HN := hide hn
  clear hn
  go_enter Tryd.func8, Tryd.ntmps8
  go_wp2_with fail
  refine (of_any z w n HN.out hz).mono ?_; rintro e w1 ⟨m, a, b, rfl, N1⟩
  have H1 := hide N1
  clear N1
  go_wp2
  go_ret
  refine ⟨_, rfl, ?_, ?_⟩
  · refine ⟨m, a, b, _, _, fun _ => none, ⟨?_, H1.out.mem.grow (below_alloc _ _), fun _ _ e => ?_, fun _ _ _ _ e => ?_, fun _ _ _ _ _ e => ?_, H1.out.bel.size, H1.out.ha, H1.out.hb, good_new n⟩, fun _ => rfl⟩
    · rw [heap_alloc_new, new_box]
    · cases e
    · cases e
    · cases e
  · exact below_one H1.out.bel (below_alloc _ _)
end Go.Proofs.YtppdammgmnihgaaDoor
