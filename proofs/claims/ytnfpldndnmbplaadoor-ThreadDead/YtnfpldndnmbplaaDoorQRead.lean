/-
  What came in gives to the walks: a slice's numbers.
-/
import Derived.Test.YtnfpldndnmbplaaDoorQAwake
import Derived.OpenShut
namespace Go.Proofs.YtnfpldndnmbplaaDoor
open Go.RowKit
/- a slice of integers that came in: nil, or a row of so many cells, each fitting its kind -/
def RowOf (k : IntKind) (w : World) (a : Option Addr) (len cap : Nat) (zs : List Int) : Prop :=
  (a = none ∧ len = 0 ∧ cap = 0 ∧ zs = []) ∨
  ∃ x, a = some x ∧ len ≤ cap ∧ cap ≤ maxLen ∧ zs.length = cap ∧ (∀ i, i < zs.length → w.cell? (x.add i) = some (.int k (zs.getD i 0))) ∧ ∀ n ∈ zs, (Lit.int k n).wf = true
theorem bytesOf3 : Tryd.prog.bytesOf 3 = 8 := by kernel_rfl
theorem RowOf.nums {w : World} {a : Option Addr} {len cap : Nat} {zs : List Int} (h : RowOf .i64 w a len cap zs) : Nums w a len cap (zs.take len) := by
  rcases h with ⟨rfl, rfl, rfl, rfl⟩ | ⟨x, rfl, h1, h2, h3, h4, _⟩
  · exact nums_nil w
  · refine ⟨by rw [cellsI_len, List.length_take]; omega, h1, h2, (fun e => by cases e), fun ad e j u hu => ?_⟩
    obtain rfl := Option.some.inj e
    unfold cellsI at hu
    rw [List.map_take, List.getElem?_take] at hu
    split at hu
    · rename_i hj
      have := cellsI_get zs j (by omega)
      unfold cellsI at this
      rw [this] at hu
      rw [h4 j (by omega)]; exact hu
    · cases hu
end Go.Proofs.YtnfpldndnmbplaaDoor
