/-
  api.Number of an error that may be nil.
-/
import Derived.Test.YtdepjclbeocmhaaDoorFRead
import Derived.Test.YtdepjclbeocmhaaDoorKAlike
namespace Go.Proofs.YtdepjclbeocmhaaDoor
open Go.RowKit
theorem number_any (k : Int) (w : World) (hg : Glob w) : Calls Tryd.prog 6 #[erN k] w fun e w' => e = .returned (.int .i64 k) ∧ Below w.heap.size w w' := by
  by_cases h : k = 0
  · subst h; rw [erN_zero]; exact number_nil w
  · rw [erN_not h]; exact number_errno k w hg
end Go.Proofs.YtdepjclbeocmhaaDoor
